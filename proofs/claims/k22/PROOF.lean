import PyProof.Rows.All
import PySem.Challenge.RW_meetlots_k22_shared_and_closed_pairs_bot
import HandS.ForMost
import HandS.SortKw
import HandS.RevRange
import HandS.WideBits
import HandS.Conv
import HandS.Walk
import HandS.Style
import KE.SortKeyHeap
import PyProof.ReprBulk
import KE.SortData
set_option Elab.async false
set_option linter.all false
set_option maxRecDepth 100000
namespace Ev
open PySem PySem.Spec PyProof.Rows L2

/-! ### trees for values, cells for lists -/
inductive D where
  | non | bl (b : Bool) | int (i : Int) | str (x : Str) | tup (xs : List D) | ref (n : Nat) | frz (xs : List D)
  deriving Inhabited
abbrev Store := List (List D)
abbrev Env := List (Option D)

/-- a list that is never written -/
def FzL (K : PySem.W.Frag) (H : Hp) (a : Addr) (xs : List V) : Prop :=
  (∃ o, H a = some (.frz o (.lst xs))) ∨
    ∃ (o : Obj) (its : Array Value) (n : Nat), K.lookup a = some o ∧ o.cls = .type "list" ∧ o.dict = none ∧ o.data = .seq its n ∧ its.size ≤ sizeLine ∧ Vals xs its.toList
theorem FzL.sq {K : PySem.W.Frag} {H : Hp} {a : Addr} {xs : List V} (h : FzL K H a xs) : SqL K H a xs := by
  rcases h with ⟨o, h⟩ | h
  · exact .inl (.inr ⟨o, h⟩)
  · exact .inr h
theorem FzL.of_only {K : PySem.W.Frag} {H : Hp} {a : Addr} {xs : List V} (hO : Only H) (h : SqL K H a xs) : FzL K H a xs := by
  rcases h with (h | h) | h
  · rcases hO a with e | ⟨o, ys, e⟩
    · rw [e] at h; cases h
    · rw [e] at h; cases h
  · exact .inl h
  · exact .inr h

mutual
def Den (K : PySem.W.Frag) (m : Nat → Addr) (L : Nat) (H : Hp) : D → V → Prop
  | .non, v => v = .non
  | .bl b, v => v = .bl b
  | .int i, v => v = .int i
  | .str x, v => v = .str x
  | .tup xs, v => ∃ a vs, v = .ref a ∧ SqT K H a vs ∧ DenL K m L H xs vs
  | .ref n, v => v = .ref (m n) ∧ n < L
  | .frz xs, v => ∃ a vs, v = .ref a ∧ FzL K H a vs ∧ DenL K m L H xs vs
def DenL (K : PySem.W.Frag) (m : Nat → Addr) (L : Nat) (H : Hp) : List D → List V → Prop
  | [], vs => vs = []
  | d :: ds, vs => ∃ v r, vs = v :: r ∧ Den K m L H d v ∧ DenL K m L H ds r
end

/-- tuples and locked things stay -/
def isFix : HO → Bool
  | .tup _ => true
  | .frz _ _ => true
  | _ => false
def Kp (H H' : Hp) : Prop := ∀ a o, H a = some o → isFix o = true → H' a = some o
theorem Kp.refl (H : Hp) : Kp H H := fun _ _ h _ => h
theorem Kp.trans {H H1 H2 : Hp} (a : Kp H H1) (b : Kp H1 H2) : Kp H H2 := fun c o h f => b c o (a c o h f) f
theorem Kp.sqT {K : PySem.W.Frag} {H H' : Hp} {a : Addr} {vs : List V} (k : Kp H H') (h : SqT K H a vs) : SqT K H' a vs := by
  rcases h with (h | ⟨o, h⟩) | h
  · exact .inl (.inl (k _ _ h rfl))
  · exact .inl (.inr ⟨o, k _ _ h rfl⟩)
  · exact .inr h
theorem Kp.fz {K : PySem.W.Frag} {H H' : Hp} {a : Addr} {vs : List V} (k : Kp H H') (h : FzL K H a vs) : FzL K H' a vs := by
  rcases h with ⟨o, h⟩ | h
  · exact .inl ⟨o, k _ _ h rfl⟩
  · exact .inr h

mutual
theorem Den.mv {K : PySem.W.Frag} {m m' : Nat → Addr} {L L' : Nat} {H H' : Hp} (k : Kp H H') (hL : L ≤ L') (hm : ∀ n, n < L → m' n = m n) : ∀ (d : D) (v : V), Den K m L H d v → Den K m' L' H' d v
  | .non, _, h => by simpa only [Den] using h
  | .bl b, _, h => by simpa only [Den] using h
  | .int i, _, h => by simpa only [Den] using h
  | .str x, _, h => by simpa only [Den] using h
  | .tup xs, v, h => by
    simp only [Den] at h ⊢
    obtain ⟨a, vs, e, q, r⟩ := h
    exact ⟨a, vs, e, k.sqT q, DenL.mv k hL hm xs vs r⟩
  | .ref n, v, h => by
    simp only [Den] at h ⊢
    exact ⟨by rw [hm n h.2]; exact h.1, Nat.lt_of_lt_of_le h.2 hL⟩
  | .frz xs, v, h => by
    simp only [Den] at h ⊢
    obtain ⟨a, vs, e, q, r⟩ := h
    exact ⟨a, vs, e, k.fz q, DenL.mv k hL hm xs vs r⟩
theorem DenL.mv {K : PySem.W.Frag} {m m' : Nat → Addr} {L L' : Nat} {H H' : Hp} (k : Kp H H') (hL : L ≤ L') (hm : ∀ n, n < L → m' n = m n) : ∀ (d : List D) (v : List V), DenL K m L H d v → DenL K m' L' H' d v
  | [], _, h => by simpa only [DenL] using h
  | d :: ds, vs, h => by
    simp only [DenL] at h ⊢
    obtain ⟨v, r, e, h1, h2⟩ := h
    exact ⟨v, r, e, Den.mv k hL hm d v h1, DenL.mv k hL hm ds r h2⟩
end

structure Sim (K : PySem.W.Frag) (m : Nat → Addr) (S : Store) (H : Hp) : Prop where
  inj : ∀ i j, i < S.length → j < S.length → m i = m j → i = j
  cell : ∀ (n : Nat) (xs : List D), S[n]? = some xs → ∃ vs, H (m n) = some (.lst vs) ∧ DenL K m S.length H xs vs

structure Go (K : PySem.W.Frag) (m : Nat → Addr) (S : Store) (H : Hp) (m' : Nat → Addr) (S' : Store) (H' : Hp) : Prop where
  keep : Kp H H'
  len : S.length ≤ S'.length
  ag : ∀ n, n < S.length → m' n = m n
  sim : Sim K m' S' H'
section
variable {K : PySem.W.Frag} {m m' m2 : Nat → Addr} {S S' S2 : Store} {H H' H2 : Hp}
theorem Go.refl (h : Sim K m S H) : Go K m S H m S H := ⟨Kp.refl _, Nat.le_refl _, fun _ _ => rfl, h⟩
theorem Go.trans (a : Go K m S H m' S' H') (b : Go K m' S' H' m2 S2 H2) : Go K m S H m2 S2 H2 :=
  ⟨a.keep.trans b.keep, Nat.le_trans a.len b.len, fun n hn => (b.ag n (Nat.lt_of_lt_of_le hn a.len)).trans (a.ag n hn), b.sim⟩
theorem Go.den (g : Go K m S H m' S' H') {d : D} {v : V} (h : Den K m S.length H d v) : Den K m' S'.length H' d v := Den.mv g.keep g.len g.ag d v h
theorem Go.denL (g : Go K m S H m' S' H') {d : List D} {v : List V} (h : DenL K m S.length H d v) : DenL K m' S'.length H' d v := DenL.mv g.keep g.len g.ag d v h
theorem DenL.len {L : Nat} : ∀ {ds : List D} {vs : List V}, DenL K m L H ds vs → ds.length = vs.length
  | [], _, h => by simp only [DenL] at h; rw [h]; rfl
  | d :: ds, _, h => by
    simp only [DenL] at h
    obtain ⟨v, r, rfl, _, h2⟩ := h
    rw [List.length_cons, List.length_cons, DenL.len h2]
theorem DenL.nil {L : Nat} : DenL K m L H [] [] := by simp only [DenL]
theorem DenL.cons {L : Nat} {d : D} {v : V} {ds : List D} {vs : List V} (h : Den K m L H d v) (h2 : DenL K m L H ds vs) : DenL K m L H (d :: ds) (v :: vs) := by
  simp only [DenL]
  exact ⟨v, vs, rfl, h, h2⟩
theorem DenL.app {L : Nat} : ∀ {ds es : List D} {vs us : List V}, DenL K m L H ds vs → DenL K m L H es us → DenL K m L H (ds ++ es) (vs ++ us)
  | [], es, _, us, h, h2 => by simp only [DenL] at h; subst h; exact h2
  | d :: ds, es, _, us, h, h2 => by
    simp only [DenL] at h
    obtain ⟨v, r, rfl, h1, h3⟩ := h
    exact DenL.cons h1 (DenL.app h3 h2)
theorem DenL.get {L : Nat} : ∀ {ds : List D} {vs : List V} {i : Nat} {d : D}, DenL K m L H ds vs → ds[i]? = some d → ∃ v, vs[i]? = some v ∧ Den K m L H d v
  | [], _, _, _, _, e => by simp at e
  | d :: ds, _, 0, _, h, e => by
    simp only [DenL] at h
    obtain ⟨v, r, rfl, h1, h3⟩ := h
    simp at e; subst e
    exact ⟨v, rfl, h1⟩
  | d :: ds, _, i + 1, _, h, e => by
    simp only [DenL] at h
    obtain ⟨v, r, rfl, h1, h3⟩ := h
    obtain ⟨v', h4, h5⟩ := DenL.get (i := i) h3 (by simpa using e)
    exact ⟨v', by simpa using h4, h5⟩
theorem DenL.getV {L : Nat} {ds : List D} {vs : List V} {i : Nat} {v : V} (h : DenL K m L H ds vs) (e : vs[i]? = some v) : ∃ d, ds[i]? = some d ∧ Den K m L H d v := by
  have hl := h.len
  have hi : i < vs.length := (List.getElem?_eq_some_iff.mp e).1
  obtain ⟨d, hd⟩ : ∃ d, ds[i]? = some d := ⟨ds[i]'(by omega), List.getElem?_eq_getElem (by omega)⟩
  obtain ⟨v', h1, h2⟩ := h.get hd
  rw [e] at h1; cases h1
  exact ⟨d, hd, h2⟩
theorem DenL.set {L : Nat} {d : D} {v : V} (hd : Den K m L H d v) : ∀ {ds : List D} {vs : List V} (i : Nat), DenL K m L H ds vs → DenL K m L H (ds.set i d) (vs.set i v)
  | [], _, _, h => by simp only [DenL] at h; subst h; exact DenL.nil
  | e :: ds, _, 0, h => by
    simp only [DenL] at h
    obtain ⟨v, r, rfl, h1, h3⟩ := h
    exact DenL.cons hd h3
  | e :: ds, _, i + 1, h => by
    simp only [DenL] at h
    obtain ⟨v, r, rfl, h1, h3⟩ := h
    exact DenL.cons h1 (DenL.set hd i h3)
theorem DenL.eraseIdx {L : Nat} : ∀ {ds : List D} {vs : List V} (i : Nat), DenL K m L H ds vs → DenL K m L H (ds.eraseIdx i) (vs.eraseIdx i)
  | [], _, _, h => by simp only [DenL] at h; subst h; exact DenL.nil
  | e :: ds, _, 0, h => by
    simp only [DenL] at h
    obtain ⟨v, r, rfl, h1, h3⟩ := h
    exact h3
  | e :: ds, _, i + 1, h => by
    simp only [DenL] at h
    obtain ⟨v, r, rfl, h1, h3⟩ := h
    exact DenL.cons h1 (DenL.eraseIdx i h3)
theorem DenL.take {L : Nat} : ∀ {ds : List D} {vs : List V} (i : Nat), DenL K m L H ds vs → DenL K m L H (ds.take i) (vs.take i)
  | [], _, _, h => by simp only [DenL] at h; subst h; simp only [List.take_nil]; exact DenL.nil
  | e :: ds, _, 0, h => by simp only [List.take_zero]; exact DenL.nil
  | e :: ds, _, i + 1, h => by
    simp only [DenL] at h
    obtain ⟨v, r, rfl, h1, h3⟩ := h
    exact DenL.cons h1 (DenL.take i h3)
theorem DenL.drop {L : Nat} : ∀ {ds : List D} {vs : List V} (i : Nat), DenL K m L H ds vs → DenL K m L H (ds.drop i) (vs.drop i)
  | [], _, _, h => by simp only [DenL] at h; subst h; simp only [List.drop_nil]; exact DenL.nil
  | e :: ds, _, 0, h => by simp only [List.drop_zero]; exact h
  | e :: ds, _, i + 1, h => by
    simp only [DenL] at h
    obtain ⟨v, r, rfl, h1, h3⟩ := h
    exact DenL.drop i h3
theorem DenL.rep {L : Nat} {ds : List D} {vs : List V} (h : DenL K m L H ds vs) : ∀ k : Nat, DenL K m L H (List.replicate k ds).flatten (List.replicate k vs).flatten
  | 0 => by simp only [List.replicate_zero, List.flatten_nil]; exact DenL.nil
  | k + 1 => by
    rw [List.replicate_succ, List.replicate_succ, List.flatten_cons, List.flatten_cons]
    exact h.app (DenL.rep h k)

/-! ### the three ways in which the heap changes -/
theorem kp_new {p : Addr} {o : HO} (hp : H p = none) : Kp H (upd H p o) := fun a u h _ => by rw [upd_ne (ne_of_none h hp)]; exact h
/-- a new tuple (or another thing that isn't a cell) -/
theorem Go.other (h : Sim K m S H) {p : Addr} {o : HO} (hp : H p = none) : Go K m S H m S (upd H p o) := by
  have k : Kp H (upd H p o) := kp_new hp
  refine ⟨k, Nat.le_refl _, fun _ _ => rfl, h.inj, fun n xs e => ?_⟩
  obtain ⟨vs, h1, h2⟩ := h.cell n xs e
  exact ⟨vs, by rw [upd_ne (ne_of_none h1 hp)]; exact h1, DenL.mv k (Nat.le_refl _) (fun _ _ => rfl) xs vs h2⟩
theorem Go.tup (h : Sim K m S H) {p : Addr} {ds : List D} {vs : List V} (hp : H p = none) (hd : DenL K m S.length H ds vs) : Go K m S H m S (upd H p (.tup vs)) ∧ Den K m S.length (upd H p (.tup vs)) (.tup ds) (.ref p) := by
  refine ⟨Go.other h hp, ?_⟩
  simp only [Den]
  exact ⟨p, vs, rfl, .inl (.inl upd_same), DenL.mv (kp_new hp) (Nat.le_refl _) (fun _ _ => rfl) ds vs hd⟩
def put (m : Nat → Addr) (n : Nat) (p : Addr) : Nat → Addr := fun i => if i = n then p else m i
theorem put_same {n : Nat} {p : Addr} : put m n p n = p := by unfold put; rw [if_pos rfl]
theorem put_ne {n i : Nat} {p : Addr} (h : i ≠ n) : put m n p i = m i := by unfold put; rw [if_neg h]
/-- a new list -/
theorem Go.lst (h : Sim K m S H) {p : Addr} {ds : List D} {vs : List V} (hp : H p = none) (hd : DenL K m S.length H ds vs) :
    Go K m S H (put m S.length p) (S ++ [ds]) (upd H p (.lst vs)) ∧ Den K (put m S.length p) (S ++ [ds]).length (upd H p (.lst vs)) (.ref S.length) (.ref p) := by
  have k : Kp H (upd H p (.lst vs)) := kp_new hp
  have hl : (S ++ [ds]).length = S.length + 1 := by simp
  have ag : ∀ n, n < S.length → put m S.length p n = m n := fun n hn => put_ne (Nat.ne_of_lt hn)
  have there : ∀ n, n < S.length → ∃ vs, H (m n) = some (.lst vs) := fun n hn => by
    obtain ⟨vs, e, _⟩ := h.cell n _ (List.getElem?_eq_getElem hn)
    exact ⟨vs, e⟩
  refine ⟨⟨k, by omega, ag, fun i j hi hj e => ?_, fun n xs e => ?_⟩, ?_⟩
  · rw [hl] at hi hj
    by_cases h1 : i = S.length
    · by_cases h2 : j = S.length
      · omega
      · rw [h1, put_same, put_ne h2] at e
        obtain ⟨us, q⟩ := there j (by omega)
        rw [← e, hp] at q; cases q
    · by_cases h2 : j = S.length
      · rw [h2, put_same, put_ne h1] at e
        obtain ⟨us, q⟩ := there i (by omega)
        rw [e, hp] at q; cases q
      · rw [put_ne h1, put_ne h2] at e
        exact h.inj i j (by omega) (by omega) e
  · rw [hl]
    by_cases hn : n < S.length
    · rw [List.getElem?_append_left hn] at e
      obtain ⟨us, h1, h2⟩ := h.cell n xs e
      refine ⟨us, ?_, DenL.mv k (by omega) ag xs us h2⟩
      rw [ag n hn, upd_ne (ne_of_none h1 hp)]
      exact h1
    · have e2 : n = S.length := by
        have := (List.getElem?_eq_some_iff.mp e).1
        omega
      subst e2
      rw [List.getElem?_append_right (Nat.le_refl _), Nat.sub_self] at e
      simp at e; subst e
      exact ⟨vs, by rw [put_same, upd_same], DenL.mv k (by omega) ag ds vs hd⟩
  · simp only [Den]
    exact ⟨by rw [put_same], by omega⟩
/-- a list is written -/
theorem Go.set (h : Sim K m S H) {n : Nat} {xs : List D} {ds : List D} {vs : List V} (hn : S[n]? = some xs) (hd : DenL K m S.length H ds vs) :
    Go K m S H m (S.set n ds) (upd H (m n) (.lst vs)) := by
  obtain ⟨us, e0, _⟩ := h.cell n xs hn
  have hlt : n < S.length := (List.getElem?_eq_some_iff.mp hn).1
  have k : Kp H (upd H (m n) (.lst vs)) := fun a o e f => by
    rw [upd_ne]
    · exact e
    · intro z; subst z; rw [e0] at e; cases e; cases f
  refine ⟨k, by simp, fun _ _ => rfl, fun i j hi hj e => h.inj i j (by simpa using hi) (by simpa using hj) e, fun j ys e => ?_⟩
  rw [List.length_set]
  by_cases hj : n = j
  · subst hj
    rw [List.getElem?_set_self hlt] at e
    cases e
    exact ⟨vs, upd_same, DenL.mv k (Nat.le_refl _) (fun _ _ => rfl) _ _ hd⟩
  · rw [List.getElem?_set_ne hj] at e
    obtain ⟨ws, h1, h2⟩ := h.cell j ys e
    have hj2 : j < S.length := (List.getElem?_eq_some_iff.mp e).1
    refine ⟨ws, ?_, DenL.mv k (Nat.le_refl _) (fun _ _ => rfl) _ _ h2⟩
    rw [upd_ne]
    · exact h1
    · intro z; exact hj (h.inj j n hj2 hlt z).symm
end

/-! ### slots -/
structure EnvR (K : PySem.W.Frag) (m : Nat → Addr) (L : Nat) (H : Hp) (r : Env) (s : L2.St) : Prop where
  len : r.length = s.length
  at_ : ∀ (i : Nat) (d : D), r[i]? = some (some d) → ∃ v, s[i]? = some (some v) ∧ Den K m L H d v
section
variable {K : PySem.W.Frag} {m m' m2 : Nat → Addr} {S S' S2 : Store} {H H' H2 : Hp} {r : Env} {s : L2.St}
theorem Go.env (g : Go K m S H m' S' H') (h : EnvR K m S.length H r s) : EnvR K m' S'.length H' r s :=
  ⟨h.len, fun i d e => let ⟨v, h1, h2⟩ := h.at_ i d e; ⟨v, h1, g.den h2⟩⟩
theorem EnvR.set {L : Nat} (h : EnvR K m L H r s) {d : D} {v : V} (hd : Den K m L H d v) (i : Nat) : EnvR K m L H (r.set i (some d)) (s.set i (some v)) := by
  refine ⟨by simp [h.len], fun j e hj => ?_⟩
  by_cases hi : i = j
  · subst hi
    by_cases hl : i < r.length
    · rw [List.getElem?_set_self hl] at hj
      cases hj
      exact ⟨v, by rw [List.getElem?_set_self (by rw [← h.len]; exact hl)], hd⟩
    · rw [List.getElem?_eq_none (by simpa using hl)] at hj; cases hj
  · rw [List.getElem?_set_ne hi] at hj
    obtain ⟨v', h1, h2⟩ := h.at_ j e hj
    exact ⟨v', by rw [List.getElem?_set_ne hi]; exact h1, h2⟩
def wipeE (r : Env) : List Nat → Env
  | [] => r
  | v :: vs => (wipeE r vs).set v none
theorem EnvR.wipe {L : Nat} (h : EnvR K m L H r s) : ∀ vs : List Nat, EnvR K m L H (wipeE r vs) (wipe s vs)
  | [] => h
  | v :: vs => by
    have ih := EnvR.wipe h vs
    unfold wipeE L2.wipe
    refine ⟨by simp [ih.len], fun j e hj => ?_⟩
    by_cases hi : v = j
    · subst hi
      by_cases hl : v < (wipeE r vs).length
      · rw [List.getElem?_set_self hl] at hj; cases hj
      · rw [List.getElem?_eq_none (by simpa using hl)] at hj; cases hj
    · rw [List.getElem?_set_ne hi] at hj
      obtain ⟨v', h1, h2⟩ := ih.at_ j e hj
      exact ⟨v', by rw [List.getElem?_set_ne hi]; exact h1, h2⟩
end
end Ev

set_option Elab.async false
set_option linter.all false
set_option maxRecDepth 100000
namespace Ev
open PySem PySem.Spec PyProof.Rows L2

inductive Op2 where
  | add | sub | mul | fdiv | mod | shl | shr | band | bor | bxor | pow
inductive Cm where
  | lt | le | gt | ge | eq | ne | isn | notn | inn | notin
inductive Bi where
  | len | tuple | list | abs | sum | repr | int
inductive Mt where
  | pop | popAt | append | extend
inductive Tg where
  | nm (i : Nat) | tp (is : List Nat)

mutual
inductive Ex where
  | var (i : Nat) | cst (d : D)
  | op (o : Op2) (a b : Ex) | neg (a : Ex)
  | cmp (o : Cm) (a b : Ex)
  | andE (a b : Ex) | orE (a b : Ex) | notE (a : Ex) | ite (c : Tx) (a b : Ex)
  | tup (es : Exs) | lst (es : Exs)
  | idx (a i : Ex) | sli (a : Ex) (lo hi : Exo)
  | call (f : Nat) (es : Exs) | callP (f : Nat) (es ks : Exs) (perm : List Nat)
  | bi (b : Bi) (es : Exs) | bits (a : Ex) | mt (m : Mt) (a : Ex) (es : Exs)
  | listRng (a : Ex) | tupRng (a : Ex)
  | sortK (f : Nat) (a : Ex)
  | comp1 (tg : Tg) (it : Itr) (c : Tx) (e : Ex) (own : List Nat)
  | comp2 (tg : Tg) (it : Itr) (c : Tx) (tg1 : Tg) (it1 : Itr) (c1 : Tx) (e : Ex) (own own1 : List Nat)
inductive Exs where
  | nil | cons (e : Ex) (es : Exs)
inductive Exo where
  | none | some (e : Ex)
inductive Tx where
  | val (e : Ex) | cmp (o : Cm) (a b : Ex) | and (a b : Tx) | or (a b : Tx) | not (a : Tx) | yes
inductive Itr where
  | ex (e : Ex) | rng1 (a : Ex) | rng2 (a b : Ex) | enum (a : Ex)
end
mutual
inductive Sx where
  | set (tg : Tg) (e : Ex) | par (is : List Nat) (es : Exs) | seti (o i e : Ex) | aug (i : Nat) (o : Op2) (e : Ex)
  | expr (e : Ex) | ret (e : Ex) | retN | iff (c : Tx) (a b : Sxs) | for (tg : Tg) (it : Itr) (b : Sxs) | whl (n : Nat) (c : Tx) (b : Sxs)
  | brk | cont | pass
inductive Sxs where
  | nil | cons (s : Sx) (ss : Sxs)
end

abbrev R := Option (D × Store)
abbrev RL := Option (List D × Store)

/-! ### values -/
mutual
/-- the data at a value: lists are read through their cells -/
def dat (n : Nat) (S : Store) : D → Option PyData
  | .non => some .none
  | .bl b => some (.bool b)
  | .int i => some (.int i)
  | .str x => some (.str x)
  | .tup xs => (datL n S xs).map .tuple
  | .frz xs => (datL n S xs).map .list
  | .ref k => match n with
    | 0 => none
    | n + 1 => match S[k]? with
      | none => none
      | some xs => (datL n S xs).map .list
  termination_by d => (n, sizeOf d)
def datL (n : Nat) (S : Store) : List D → Option (List PyData)
  | [] => some []
  | d :: ds => match dat n S d, datL n S ds with
    | some x, some xs => some (x :: xs)
    | _, _ => none
  termination_by ds => (n, sizeOf ds)
end

instance (i j : Int) : Decidable (CMul i j) := by unfold CMul; infer_instance
instance (i j : Int) : Decidable (CDiv i j) := by unfold CDiv; infer_instance
instance (i j : Int) : Decidable (CPow i j) := by unfold CPow; infer_instance

def intOp (o : Op2) (i j : Int) : Option Int := match o with
  | .add => some (i + j)
  | .sub => some (i - j)
  | .mul => if CMul i j then some (i * j) else none
  | .fdiv => if CDiv i j then some (i / j) else none
  | .mod => if 0 < j then some (i % j) else none
  | .shl => if CPow i j then some (i * 2 ^ j.toNat) else none
  | .shr => if 0 ≤ j then some (i / 2 ^ j.toNat) else none
  | .band => some (Builtin.bitAnd i j)
  | .bor => some (Builtin.bitOr i j)
  | .bxor => some (Builtin.bitXor i j)
  | .pow => if CPow i j then some (i ^ j.toNat) else none
def opR (o : Op2) (x y : D) (S : Store) : R := match x, y with
  | .int i, .int j => (intOp o i j).map fun k => (.int k, S)
  | .ref a, .ref b => match o, S[a]?, S[b]? with
    | .add, some xs, some ys => if xs.length + ys.length ≤ sizeLine then some (.ref S.length, S ++ [xs ++ ys]) else none
    | _, _, _ => none
  | .ref a, .int k => match o, S[a]? with
    | .mul, some xs => if -(2 ^ 63) ≤ k ∧ k < 2 ^ 63 ∧ xs.length * k.toNat ≤ sizeLine then some (.ref S.length, S ++ [(List.replicate k.toNat xs).flatten]) else none
    | _, _ => none
  | .tup xs, .tup ys => match o with
    | .add => if xs ≠ [] ∧ xs.length + ys.length ≤ sizeLine then some (.tup (xs ++ ys), S) else none
    | _ => none
  | .str x, .str y => match o with
    | .add => if x.length + y.length ≤ sizeLine then some (.str (x ++ y), S) else none
    | _ => none
  | _, _ => none
def eqR (x y : D) (S : Store) : Option Bool := match x, y with
  | .int i, .int j => some (decide (i = j))
  | .str i, .str j => some (decide (i = j))
  | .bl i, .bl j => some (decide (i = j))
  | x, y => match dat 8 S x, dat 8 S y with
    | some d, some e => if SeqAt.shaped d = true ∧ SeqAt.shaped e = true then some (PyData.eqv d e) else none
    | _, _ => none
def isSeq : D → Bool
  | .tup _ => true
  | .frz _ => true
  | .ref _ => true
  | _ => false
def isNon : D → Bool
  | .non => true
  | _ => false
def intsOf : List D → Option (List Int)
  | [] => some []
  | .int i :: ds => (intsOf ds).map (i :: ·)
  | _ :: _ => none
def seqOf (S : Store) : D → Option (List D)
  | .tup xs => some xs
  | .frz xs => some xs
  | .ref n => S[n]?
  | _ => none
def inR (x y : D) (S : Store) : Option Bool := match x, seqOf S y with
  | .int i, some xs => (intsOf xs).map fun ns => decide (i ∈ ns)
  | _, _ => none
def cmR (o : Cm) (x y : D) (S : Store) : Option Bool := match o, x, y with
  | .lt, .int i, .int j => some (decide (i < j))
  | .le, .int i, .int j => some (decide (i ≤ j))
  | .gt, .int i, .int j => some (decide (j < i))
  | .ge, .int i, .int j => some (decide (j ≤ i))
  | .eq, x, y => eqR x y S
  | .ne, x, y => (eqR x y S).map (!·)
  | .isn, x, .non => some (isNon x)
  | .notn, x, .non => some (!isNon x)
  | .inn, x, y => inR x y S
  | .notin, x, y => (inR x y S).map (!·)
  | _, _, _ => none
def truR (x : D) (S : Store) : Option Bool := match x with
  | .bl b => some b
  | .non => some false
  | .int i => some (i != 0)
  | .ref n => (S[n]?).map fun xs => !xs.isEmpty
  | .tup xs => some (!xs.isEmpty)
  | _ => none
def ixR (x i : D) (S : Store) : Option D := match seqOf S x, i with
  | some xs, .int i => atI xs i
  | _, _ => none
def cutD (xs : List D) (lo hi : Option Int) : List D := (xs.drop (HT.sIx xs.length 0 lo)).take (HT.sIx xs.length xs.length hi - HT.sIx xs.length 0 lo)
def slR (x : D) (lo hi : Option Int) (S : Store) : R := match x with
  | .tup xs => if ¬ (HT.sIx xs.length 0 lo = 0 ∧ HT.sIx xs.length xs.length hi = xs.length) then some (.tup (cutD xs lo hi), S) else none
  | .frz xs => some (.ref S.length, S ++ [cutD xs lo hi])
  | .ref n => (S[n]?).map fun xs => (.ref S.length, S ++ [cutD xs lo hi])
  | _ => none
def biR (b : Bi) (vs : List D) (S : Store) : R := match b, vs with
  | .len, [x] => (seqOf S x).map fun xs => (.int xs.length, S)
  | .tuple, [.tup xs] => some (.tup xs, S)
  | .tuple, [x] => (seqOf S x).map fun xs => (.tup xs, S)
  | .list, [x] => (seqOf S x).map fun xs => (.ref S.length, S ++ [xs])
  | .abs, [.int i] => some (.int (if i < 0 then -i else i), S)
  | .int, [.int i] => some (.int i, S)
  | .int, [.bl b] => some (.int (if b then 1 else 0), S)
  | .sum, [x] => match (seqOf S x).bind intsOf with
    | some ns => match x with
      | .tup _ => none
      | _ => some (.int ns.sum, S)
    | none => none
  | .repr, [x] => match dat 8 S x with
    | some d => if isSeq x = true ∧ PyData.showable d = true ∧ d.hasDict = false ∧ d.shown.length ≤ sizeLine ∧ d.depth ≤ 20 then some (.str d.shown, S) else none
    | none => none
  | _, _ => none
def mtR (m : Mt) (x : D) (vs : List D) (S : Store) : R := match x with
  | .ref n => match S[n]? with
    | none => none
    | some xs => match m, vs with
      | .append, [y] => if xs.length < sizeLine then some (.non, S.set n (xs ++ [y])) else none
      | .pop, [] => (xs[xs.length - 1]?).map fun y => (y, S.set n xs.dropLast)
      | .popAt, [.int i] => if -(2 ^ 63) ≤ i ∧ i < 2 ^ 63 then (match seqIndex? i xs.length with
          | some k => (xs[k]?).map fun y => (y, S.set n (xs.eraseIdx k))
          | none => none) else none
      | .extend, [.ref b] => match S[b]? with
        | some zs => if xs.length + zs.length ≤ sizeLine then some (.non, S.set n (xs ++ zs)) else none
        | none => none
      | _, _ => none
  | _ => none

def bindT : Tg → D → Env → Option Env
  | .nm i, d, r => some (r.set i (some d))
  | .tp is, .tup ds, r => if is.length = ds.length then some ((is.zip ds).foldl (fun r p => r.set p.1 (some p.2)) r) else none
  | _, _, _ => none

/-- what is gone through: the items, and the list that must stay as it is -/
structure Its where
  items : List D
  guard : Option (Nat × List D)
def okG (g : Option (Nat × List D)) (S : Store) : Prop := match g with
  | none => True
  | some (n, xs) => S[n]? = some xs
def rngD (lo : Int) (n : Nat) : List D := (List.range n).map fun i => .int (lo + (i : Nat))
def enumD (xs : List D) : List D := (List.range xs.length).zipWith (fun i x => .tup [.int (i : Nat), x]) xs
def inR62 (j : Int) : Prop := -(2 ^ 62) ≤ j ∧ j < 2 ^ 62
instance (j : Int) : Decidable (inR62 j) := by unfold inR62; infer_instance
def itSeq (x : D) (S : Store) : Option Its := match x with
  | .tup xs => some ⟨xs, none⟩
  | .frz xs => some ⟨xs, none⟩
  | .ref n => (S[n]?).map fun xs => ⟨xs, some (n, xs)⟩
  | _ => none
def itEnum (x : D) (S : Store) : Option Its := match x with
  | .frz xs => some ⟨enumD xs, none⟩
  | .ref n => (S[n]?).map fun xs => ⟨enumD xs, some (n, xs)⟩
  | _ => none

/-- sorted by a key: the keys one behind the other, then a stable sort by their data -/
def keysD (call : List D → Store → R) : List D → Store → Option (List D × Store)
  | [], S => some ([], S)
  | d :: ds, S => match call [d] S with
    | none => none
    | some (k, S1) => match keysD call ds S1 with
      | none => none
      | some (ks, S2) => some (k :: ks, S2)
def lstOf (S : Store) : D → Option (List D)
  | .ref n => S[n]?
  | .frz xs => some xs
  | _ => none
abbrev ordK {β : Type} (xs : List β) (kds : List PyData) : List β := ((xs.zip kds).mergeSort (PySem.W.dataLe false (·.2))).map (·.1)
open Classical in
noncomputable def sortR (call : List D → Store → R) (x : D) (S : Store) : R := match lstOf S x with
  | none => none
  | some xs => match keysD call xs S with
    | none => none
    | some (ks, S2) => match datL 8 S2 ks with
      | none => none
      | some kds => if PySem.W.AllAlike kds ∧ PySem.W.Sortable kds ∧ ∀ d, d ∈ kds → d.depth ≤ 20 then some (.ref S2.length, S2 ++ [ordK xs kds]) else none

inductive Fl where
  | nx (r : Env) (S : Store) | rt (d : D) (S : Store) | bk (r : Env) (S : Store) | ct (r : Env) (S : Store)

abbrev CallF := Nat → List D → Store → R

open Classical in
/-- a comprehension's loop -/
noncomputable def compLoop (tg : Tg) (g : Option (Nat × List D)) (turn : Env → Store → Option Store) (r : Env) : List D → Store → Option Store
  | [], S => if okG g S then some S else none
  | x :: xs, S => if okG g S then match bindT tg x r with
    | none => none
    | some r1 => match turn r1 S with
      | none => none
      | some S1 => compLoop tg g turn r xs S1
    else none
def appD (n : Nat) (y : D) (S : Store) : Option Store := match S[n]? with
  | none => none
  | some xs => if xs.length < sizeLine then some (S.set n (xs ++ [y])) else none
def permL (ds : List D) : List Nat → Option (List D)
  | [] => some []
  | i :: is => match ds[i]?, permL ds is with
    | some d, some r => some (d :: r)
    | _, _ => none

noncomputable section
mutual
def evE (cf : CallF) : Ex → Env → Store → R
  | .var i, r, S => match r[i]? with
    | some (some d) => some (d, S)
    | _ => none
  | .cst d, _, S => some (d, S)
  | .op o a b, r, S => (evE cf a r S).bind fun p => (evE cf b r p.2).bind fun q => opR o p.1 q.1 q.2
  | .neg a, r, S => (evE cf a r S).bind fun p => match p.1 with
    | .int i => some (.int (-i), p.2)
    | _ => none
  | .cmp o a b, r, S => (evE cf a r S).bind fun p => (evE cf b r p.2).bind fun q => (cmR o p.1 q.1 q.2).map fun c => (.bl c, q.2)
  | .andE a b, r, S => (evE cf a r S).bind fun p => match p.1 with
    | .bl true => evE cf b r p.2
    | .bl false => some (.bl false, p.2)
    | _ => none
  | .orE a b, r, S => (evE cf a r S).bind fun p => match p.1 with
    | .bl false => evE cf b r p.2
    | .bl true => some (.bl true, p.2)
    | _ => none
  | .notE a, r, S => (evE cf a r S).bind fun p => match p.1 with
    | .bl c => some (.bl (!c), p.2)
    | _ => none
  | .ite c a b, r, S => (evB cf c r S).bind fun p => if p.1 = true then evE cf a r p.2 else evE cf b r p.2
  | .tup es, r, S => (evL cf es r S).bind fun p => if p.1.length ≤ sizeLine then some (.tup p.1, p.2) else none
  | .lst es, r, S => (evL cf es r S).bind fun p => if p.1.length ≤ sizeLine then some (.ref p.2.length, p.2 ++ [p.1]) else none
  | .idx a i, r, S => (evE cf a r S).bind fun p => (evE cf i r p.2).bind fun q => (ixR p.1 q.1 q.2).map fun d => (d, q.2)
  | .sli a lo hi, r, S => (evE cf a r S).bind fun p => (evO cf lo r p.2).bind fun q => (evO cf hi r q.2).bind fun u => slR p.1 q.1 u.1 u.2
  | .call f es, r, S => (evL cf es r S).bind fun p => cf f p.1 p.2
  | .callP f es ks pm, r, S => (evL cf es r S).bind fun p => (evL cf ks r p.2).bind fun q => (permL (p.1 ++ q.1) pm).bind fun ds => cf f ds q.2
  | .bi b es, r, S => (evL cf es r S).bind fun p => biR b p.1 p.2
  | .bits a, r, S => (evE cf a r S).bind fun p => match p.1 with
    | .int i => some (.int (Builtin.Int.intBits i : Nat), p.2)
    | _ => none
  | .mt m a es, r, S => (evE cf a r S).bind fun p => (evL cf es r p.2).bind fun q => mtR m p.1 q.1 q.2
  | .listRng a, r, S => (evE cf a r S).bind fun p => match p.1 with
    | .int j => if inR62 j ∧ j.toNat ≤ sizeLine then some (.ref p.2.length, p.2 ++ [rngD 0 j.toNat]) else none
    | _ => none
  | .tupRng a, r, S => (evE cf a r S).bind fun p => match p.1 with
    | .int j => if inR62 j ∧ j.toNat ≤ sizeLine then some (.tup (rngD 0 j.toNat), p.2) else none
    | _ => none
  | .sortK f a, r, S => (evE cf a r S).bind fun p => sortR (cf f) p.1 p.2
  | .comp1 tg it c e own, r, S => (evI cf it r S).bind fun p =>
      (compLoop tg p.1.guard (fun r1 S1 => (evB cf c r1 S1).bind fun q => if q.1 = true then (evE cf e r1 q.2).bind fun u => appD p.2.length u.1 u.2 else some q.2) (wipeE r own) p.1.items (p.2 ++ [[]])).bind fun S2 => some (.ref p.2.length, S2)
  | .comp2 tg it c tg1 it1 c1 e own own1, r, S => (evI cf it r S).bind fun p =>
      (compLoop tg p.1.guard (fun r1 S1 => (evB cf c r1 S1).bind fun q => if q.1 = true then
          (evI cf it1 r1 q.2).bind fun p1 => compLoop tg1 p1.1.guard (fun r2 S2 => (evB cf c1 r2 S2).bind fun q1 => if q1.1 = true then (evE cf e r2 q1.2).bind fun u => appD p.2.length u.1 u.2 else some q1.2) (wipeE r1 own1) p1.1.items p1.2
        else some q.2) (wipeE r own) p.1.items (p.2 ++ [[]])).bind fun S2 => some (.ref p.2.length, S2)
/-- a test -/
def evB (cf : CallF) : Tx → Env → Store → Option (Bool × Store)
  | .and a b, r, S => (evB cf a r S).bind fun p => if p.1 = true then evB cf b r p.2 else some (false, p.2)
  | .or a b, r, S => (evB cf a r S).bind fun p => if p.1 = true then some (true, p.2) else evB cf b r p.2
  | .not a, r, S => (evB cf a r S).bind fun p => some (!p.1, p.2)
  | .cmp o a b, r, S => (evE cf a r S).bind fun p => (evE cf b r p.2).bind fun q => (cmR o p.1 q.1 q.2).map fun c => (c, q.2)
  | .val e, r, S => (evE cf e r S).bind fun p => (truR p.1 p.2).map fun c => (c, p.2)
  | .yes, _, S => some (true, S)
def evO (cf : CallF) : Exo → Env → Store → Option (Option Int × Store)
  | .none, _, S => some (none, S)
  | .some e, r, S => (evE cf e r S).bind fun p => match p.1 with
    | .int i => some (some i, p.2)
    | _ => none
def evL (cf : CallF) : Exs → Env → Store → RL
  | .nil, _, S => some ([], S)
  | .cons e es, r, S => (evE cf e r S).bind fun p => (evL cf es r p.2).bind fun q => some (p.1 :: q.1, q.2)
def evI (cf : CallF) : Itr → Env → Store → Option (Its × Store)
  | .ex e, r, S => (evE cf e r S).bind fun p => (itSeq p.1 p.2).map fun i => (i, p.2)
  | .rng1 a, r, S => (evE cf a r S).bind fun p => match p.1 with
    | .int j => if inR62 j then some (⟨rngD 0 j.toNat, none⟩, p.2) else none
    | _ => none
  | .rng2 a b, r, S => (evE cf a r S).bind fun p => (evE cf b r p.2).bind fun q => match p.1, q.1 with
    | .int i, .int j => if inR62 i ∧ inR62 j then some (⟨rngD i (j - i).toNat, none⟩, q.2) else none
    | _, _ => none
  | .enum a, r, S => (evE cf a r S).bind fun p => (itEnum p.1 p.2).map fun i => (i, p.2)
end

open Classical in
def forLoop (tg : Tg) (g : Option (Nat × List D)) (body : Env → Store → Option Fl) : List D → Env → Store → Option Fl
  | [], r, S => if okG g S then some (.nx r S) else none
  | x :: xs, r, S => if okG g S then match bindT tg x r with
    | none => none
    | some r1 => match body r1 S with
      | some (.nx r2 S2) => forLoop tg g body xs r2 S2
      | some (.ct r2 S2) => forLoop tg g body xs r2 S2
      | some (.bk r2 S2) => some (.nx r2 S2)
      | some (.rt d S2) => some (.rt d S2)
      | none => none
    else none
def whlLoop (c : Env → Store → Option (Bool × Store)) (body : Env → Store → Option Fl) : Nat → Env → Store → Option Fl
  | 0, _, _ => none
  | n + 1, r, S => match c r S with
    | none => none
    | some (false, S1) => some (.nx r S1)
    | some (true, S1) => match body r S1 with
      | some (.nx r2 S2) => whlLoop c body n r2 S2
      | some (.ct r2 S2) => whlLoop c body n r2 S2
      | some (.bk r2 S2) => some (.nx r2 S2)
      | some (.rt d S2) => some (.rt d S2)
      | none => none
mutual
def evS (cf : CallF) : Sx → Env → Store → Option Fl
  | .set tg e, r, S => (evE cf e r S).bind fun p => (bindT tg p.1 r).map fun r1 => .nx r1 p.2
  | .par is es, r, S => (evL cf es r S).bind fun p => if is.length = p.1.length then some (.nx ((is.zip p.1).foldl (fun r p => r.set p.1 (some p.2)) r) p.2) else none
  | .seti o i e, r, S => (evE cf e r S).bind fun p => (evE cf o r p.2).bind fun q => (evE cf i r q.2).bind fun u => match q.1, u.1 with
    | .ref n, .int k => match u.2[n]? with
      | none => none
      | some xs => match ixN xs.length k with
        | none => none
        | some j => some (.nx r (u.2.set n (xs.set j p.1)))
    | _, _ => none
  | .aug i o e, r, S => match r[i]? with
    | some (some d) => (evE cf e r S).bind fun p => match d, p.1 with
      | .int a, .int b => match o with
        | .add => some (.nx (r.set i (some (.int (a + b)))) p.2)
        | .sub => some (.nx (r.set i (some (.int (a - b)))) p.2)
        | _ => none
      | _, _ => none
    | _ => none
  | .expr e, r, S => (evE cf e r S).bind fun p => some (.nx r p.2)
  | .ret e, r, S => (evE cf e r S).bind fun p => some (.rt p.1 p.2)
  | .retN, _, S => some (.rt .non S)
  | .iff c a b, r, S => (evB cf c r S).bind fun p => if p.1 = true then evSs cf a r p.2 else evSs cf b r p.2
  | .for tg it b, r, S => (evI cf it r S).bind fun p => forLoop tg p.1.guard (fun r1 S1 => evSs cf b r1 S1) p.1.items r p.2
  | .whl n c b, r, S => whlLoop (fun r1 S1 => evB cf c r1 S1) (fun r1 S1 => evSs cf b r1 S1) n r S
  | .brk, r, S => some (.bk r S)
  | .cont, r, S => some (.ct r S)
  | .pass, r, S => some (.nx r S)
def evSs (cf : CallF) : Sxs → Env → Store → Option Fl
  | .nil, r, S => some (.nx r S)
  | .cons s ss, r, S => match evS cf s r S with
    | some (.nx r1 S1) => evSs cf ss r1 S1
    | x => x
end
/-- a def: how many slots, its body -/
structure Df where
  slots : Nat
  params : Nat
  body : Sxs
def runDf (cf : CallF) (d : Df) (ds : List D) (S : Store) : R :=
  if ds.length = d.params then match evSs cf d.body (ds.map some ++ List.replicate (d.slots - ds.length) none) S with
    | some (.nx _ S1) => some (.non, S1)
    | some (.rt v S1) => some (v, S1)
    | _ => none
  else none
def evCall (P : List Df) : Nat → CallF
  | 0, _, _, _ => none
  | k + 1, f, ds, S => match P[f]? with
    | none => none
    | some d => runDf (evCall P k) d ds S
end
end Ev

set_option Elab.async false
set_option linter.all false
set_option maxRecDepth 100000
set_option maxHeartbeats 1000000
namespace Ev
open PySem PySem.Spec PyProof.Rows L2

/-! ### readings -/
section
variable (K : PySem.W.Frag)
def TR (f : Env → Store → R) : TE := fun s H Q => ∃ m S r d S', Sim K m S H ∧ EnvR K m S.length H r s ∧ f r S = some (d, S') ∧ ∀ v H' m', Go K m S H m' S' H' → Den K m' S'.length H' d v → Q v H'
def TRL (f : Env → Store → RL) : TA := fun s H Q => ∃ m S r d S', Sim K m S H ∧ EnvR K m S.length H r s ∧ f r S = some (d, S') ∧ ∀ v H' m', Go K m S H m' S' H' → DenL K m' S'.length H' d v → Q v H'
def TRB (f : Env → Store → Option (Bool × Store)) : TT := fun s H Q => ∃ m S r d S', Sim K m S H ∧ EnvR K m S.length H r s ∧ f r S = some (d, S') ∧ ∀ H' m', Go K m S H m' S' H' → Q d H'
def TRO (f : Env → Store → Option (Option Int × Store)) : TO := fun s H Q => ∃ m S r d S', Sim K m S H ∧ EnvR K m S.length H r s ∧ f r S = some (d, S') ∧ ∀ H' m', Go K m S H m' S' H' → Q d H'
end

theorem PE.mn {X : Cx} {e : Expr} {t t' : TE} (h : PE X e t) (i : ∀ s H Q, t' s H Q → t s H Q) : PE X e t' := ⟨fun pins s r H Q I q => h.run pins s r H Q I (i _ _ _ q)⟩
theorem PT.mn {X : Cx} {e : Expr} {t t' : TT} (h : PT X e t) (i : ∀ s H Q, t' s H Q → t s H Q) : PT X e t' := ⟨fun pins s r H Q I q => h.run pins s r H Q I (i _ _ _ q)⟩
theorem PW.mn {X : Cx} {e : Expr} {t t' : TT} (h : PW X e t) (i : ∀ s H Q, t' s H Q → t s H Q) : PW X e t' := ⟨fun wh pins s r H Q I q => h.run wh pins s r H Q I (i _ _ _ q)⟩
theorem PA.mn {X : Cx} {e : List Expr} {t t' : TA} (h : PA X e t) (i : ∀ s H Q, t' s H Q → t s H Q) : PA X e t' := ⟨fun pos pins s r H Q I q => h.run pos pins s r H Q I (i _ _ _ q)⟩
theorem PO.mn {X : Cx} {e : Option Expr} {t t' : TO} (h : PO X e t) (i : ∀ s H Q, t' s H Q → t s H Q) : PO X e t' := ⟨fun pins s r H Q I q => h.run pins s r H Q I (i _ _ _ q)⟩
theorem PI.mn {X : Cx} {tg e : Expr} {t t' : TI} (h : PI X tg e t) (i : ∀ s H Q, t' s H Q → t s H Q) : PI X tg e t' := ⟨fun pins s r H Q I q => h.run pins s r H Q I (i _ _ _ q)⟩
theorem PS.mn {X : Cx} {e : Stmt} {t t' : TS} (h : PS X e t) (i : ∀ D s H, t' D s H → t D s H) : PS X e t' := ⟨fun pins s r H D I q => h.run pins s r H D I (i _ _ _ q)⟩
theorem PSs.mn {X : Cx} {e : List Stmt} {t t' : TS} (h : PSs X e t) (i : ∀ D s H, t' D s H → t D s H) : PSs X e t' := ⟨fun pins s r H D I q => h.run pins s r H D I (i _ _ _ q)⟩
theorem PI.or {X : Cx} {tg e : Expr} {t t' : TI} (h : PI X tg e t) (h' : PI X tg e t') : PI X tg e (fun s H Q => t s H Q ∨ t' s H Q) :=
  ⟨fun pins s r H Q I q => q.elim (h.run pins s r H Q I) (h'.run pins s r H Q I)⟩
theorem OpR.or {X : Cx} {f : Value → Value → Sem Value} {r r' : R2} (h : OpR X f r) (h' : OpR X f r') : OpR X f (fun x y H Q => r x y H Q ∨ r' x y H Q) :=
  fun pins s σ H x y v u Q I rx ry q => q.elim (h pins s σ H x y v u Q I rx ry) (h' pins s σ H x y v u Q I rx ry)
theorem OpR.mn {X : Cx} {f : Value → Value → Sem Value} {r r' : R2} (h : OpR X f r) (i : ∀ x y H Q, r' x y H Q → r x y H Q) : OpR X f r' :=
  fun pins s σ H x y v u Q I rx ry q => h pins s σ H x y v u Q I rx ry (i _ _ _ _ q)

section
variable {K : PySem.W.Frag}

theorem bnd {α β : Type} {f : Option α} {g : α → Option β} {b : β} (h : f.bind g = some b) : ∃ a, f = some a ∧ g a = some b := by
  cases f with
  | none => cases h
  | some a => exact ⟨a, rfl, h⟩
theorem mp1 {α β : Type} {f : Option α} {g : α → β} {b : β} (h : f.map g = some b) : ∃ a, f = some a ∧ g a = b := by
  cases f with
  | none => cases h
  | some a => exact ⟨a, rfl, Option.some.inj h⟩

/-- what a two-place operation on trees promises -/
def Good2 (K : PySem.W.Frag) (g : D → D → Store → R) (r : R2) : Prop :=
  ∀ {m : Nat → Addr} {S : Store} {H : Hp} {x y : V} {dx dy d : D} {S' : Store} {Q : VK}, Sim K m S H → Den K m S.length H dx x → Den K m S.length H dy y → g dx dy S = some (d, S') →
    (∀ v H' m', Go K m S H m' S' H' → Den K m' S'.length H' d v → Q v H') → r x y H Q
theorem tr_bin {fa fb : Env → Store → R} {g : D → D → Store → R} {r : R2} (hr : Good2 K g r) {s : L2.St} {H : Hp} {Q : VK}
    (h : TR K (fun r S => (fa r S).bind fun p => (fb r p.2).bind fun q => g p.1 q.1 q.2) s H Q) : tOp r (TR K fa) (TR K fb) s H Q := by
  obtain ⟨m, S, ρ, d, S', sim, env, e, k⟩ := h
  obtain ⟨⟨dx, S1⟩, e1, e⟩ := bnd e
  obtain ⟨⟨dy, S2⟩, e2, e⟩ := bnd e
  exact ⟨m, S, ρ, dx, S1, sim, env, e1, fun x H1 m1 g1 hx => ⟨m1, S1, ρ, dy, S2, g1.sim, g1.env env, e2, fun y H2 m2 g2 hy =>
    hr g2.sim (g2.den hx) hy e fun v H' m' g3 hv => k v H' m' ((g1.trans g2).trans g3) hv⟩⟩

theorem Den.int_inv {m : Nat → Addr} {L : Nat} {H : Hp} {i : Int} {v : V} (h : Den K m L H (.int i) v) : v = .int i := by simpa only [Den] using h
theorem Den.str_inv {m : Nat → Addr} {L : Nat} {H : Hp} {i : Str} {v : V} (h : Den K m L H (.str i) v) : v = .str i := by simpa only [Den] using h
theorem Den.bl_inv {m : Nat → Addr} {L : Nat} {H : Hp} {i : Bool} {v : V} (h : Den K m L H (.bl i) v) : v = .bl i := by simpa only [Den] using h
theorem Den.non_inv {m : Nat → Addr} {L : Nat} {H : Hp} {v : V} (h : Den K m L H .non v) : v = .non := by simpa only [Den] using h
theorem Den.ref_inv {m : Nat → Addr} {L : Nat} {H : Hp} {n : Nat} {v : V} (h : Den K m L H (.ref n) v) : v = .ref (m n) ∧ n < L := by simpa only [Den] using h
theorem Den.tup_inv {m : Nat → Addr} {L : Nat} {H : Hp} {xs : List D} {v : V} (h : Den K m L H (.tup xs) v) : ∃ a vs, v = .ref a ∧ SqT K H a vs ∧ DenL K m L H xs vs := by simpa only [Den] using h
theorem Den.frz_inv {m : Nat → Addr} {L : Nat} {H : Hp} {xs : List D} {v : V} (h : Den K m L H (.frz xs) v) : ∃ a vs, v = .ref a ∧ FzL K H a vs ∧ DenL K m L H xs vs := by simpa only [Den] using h
theorem den_int {m : Nat → Addr} {L : Nat} {H : Hp} (i : Int) : Den K m L H (.int i) (.int i) := by simp only [Den]
theorem den_bl {m : Nat → Addr} {L : Nat} {H : Hp} (i : Bool) : Den K m L H (.bl i) (.bl i) := by simp only [Den]
theorem den_str {m : Nat → Addr} {L : Nat} {H : Hp} (i : Str) : Den K m L H (.str i) (.str i) := by simp only [Den]
theorem den_non {m : Nat → Addr} {L : Nat} {H : Hp} : Den K m L H .non .non := by simp only [Den]

/-! ### arithmetic -/
def oper : Op2 → Operator
  | .add => .Add | .sub => .Sub | .mul => .Mult | .fdiv => .FloorDiv | .mod => .Mod | .shl => .LShift | .shr => .RShift | .band => .BitAnd | .bor => .BitOr | .bxor => .BitXor | .pow => .Pow
def rStr : R2 := fun x y H Q => ∃ i j, x = .str i ∧ y = .str j ∧ i.length + j.length ≤ sizeLine ∧ Q (.str (i ++ j)) H
def rInt (o : Op2) : R2 := fun x y H Q => ∃ i j k, x = .int i ∧ y = .int j ∧ intOp o i j = some k ∧ Q (.int k) H
def rO (K : PySem.W.Frag) (o : Op2) : R2 := fun x y H Q => rInt o x y H Q ∨ (match o with
  | .add => rCat x y H Q ∨ rCatT K x y H Q ∨ rStr x y H Q
  | .mul => rRep x y H Q
  | _ => False)
theorem rI_of {C : Int → Int → Prop} [∀ i j, Decidable (C i j)] {g : Int → Int → Int} {o : Op2} (hg : ∀ i j, intOp o i j = if C i j then some (g i j) else none) {x y : V} {H : Hp} {Q : VK} (h : rInt o x y H Q) : rI C (fun i j => .int (g i j)) x y H Q := by
  obtain ⟨i, j, k, rfl, rfl, e, q⟩ := h
  rw [hg] at e
  by_cases c : C i j
  · rw [if_pos c] at e
    cases e
    exact ⟨i, j, rfl, rfl, c, q⟩
  · rw [if_neg c] at e; cases e
theorem rI0_of {g : Int → Int → Int} {o : Op2} (hg : ∀ i j, intOp o i j = some (g i j)) {x y : V} {H : Hp} {Q : VK} (h : rInt o x y H Q) : rI0 (fun i j => .int (g i j)) x y H Q := by
  obtain ⟨i, j, k, rfl, rfl, e, q⟩ := h
  rw [hg] at e
  cases e
  exact ⟨i, j, rfl, rfl, q⟩
theorem op_ok {X : Cx} : ∀ o : Op2, OpR X (binaryOp (oper o)) (rO X.K o)
  | .add => OpR.mn (OpR.or op_add (OpR.or op_cat (OpR.or op_catT op_add_str))) fun x y H Q h => h.imp (rI0_of fun _ _ => rfl) id
  | .mul => OpR.mn (OpR.or op_mul op_rep) fun x y H Q h => h.imp (rI_of fun _ _ => rfl) id
  | .sub => OpR.mn op_sub fun x y H Q h => h.elim (rI0_of fun _ _ => rfl) False.elim
  | .fdiv => OpR.mn op_fdiv fun x y H Q h => h.elim (rI_of fun _ _ => rfl) False.elim
  | .mod => OpR.mn op_mod fun x y H Q h => h.elim (rI_of fun _ _ => rfl) False.elim
  | .shl => OpR.mn op_shl fun x y H Q h => h.elim (rI_of fun _ _ => rfl) False.elim
  | .shr => OpR.mn op_shr fun x y H Q h => h.elim (rI_of fun _ _ => rfl) False.elim
  | .pow => OpR.mn op_pow fun x y H Q h => h.elim (rI_of fun _ _ => rfl) False.elim
  | .band => OpR.mn op_and fun x y H Q h => h.elim (rI0_of fun _ _ => rfl) False.elim
  | .bor => OpR.mn op_or fun x y H Q h => h.elim (rI0_of fun _ _ => rfl) False.elim
  | .bxor => OpR.mn op_xor fun x y H Q h => h.elim (rI0_of fun _ _ => rfl) False.elim
theorem op_good (o : Op2) : Good2 K (opR o) (rO K o) := by
  intro m S H x y dx dy d S' Q sim hx hy e k
  unfold opR at e
  split at e
  · rename_i i j
    obtain ⟨n, e1, e2⟩ := mp1 e
    cases e2
    exact .inl ⟨i, j, n, hx.int_inv, hy.int_inv, e1, k _ _ _ (Go.refl sim) (den_int n)⟩
  · rename_i a b
    split at e
    · rename_i xs ys e1 e2
      split at e
      · rename_i hz
        cases e
        obtain ⟨vs, h1, h2⟩ := sim.cell a xs e1
        obtain ⟨us, h3, h4⟩ := sim.cell b ys e2
        have l1 := h2.len
        have l2 := h4.len
        refine .inr (.inl ⟨m a, m b, vs, us, hx.ref_inv.1, hy.ref_inv.1, h1, h3, by omega, fun p hp => ?_⟩)
        obtain ⟨g, dn⟩ := Go.lst sim hp (h2.app h4)
        exact k _ _ _ g dn
      · cases e
    · cases e
  · rename_i a n
    split at e
    · rename_i xs e1
      split at e
      · rename_i hz
        cases e
        obtain ⟨vs, h1, h2⟩ := sim.cell a xs e1
        have l1 := h2.len
        refine .inr ⟨m a, n, vs, hx.ref_inv.1, hy.int_inv, h1, hz.1, hz.2.1, by rw [← l1]; exact hz.2.2, fun p hp => ?_⟩
        obtain ⟨g, dn⟩ := Go.lst sim hp (h2.rep n.toNat)
        exact k _ _ _ g dn
      · cases e
    · cases e
  · rename_i xs ys
    split at e
    · split at e
      · rename_i hz
        cases e
        obtain ⟨a, vs, rfl, h1, h2⟩ := hx.tup_inv
        obtain ⟨b, us, rfl, h3, h4⟩ := hy.tup_inv
        have l1 := h2.len
        have l2 := h4.len
        refine .inr (.inr (.inl ⟨a, b, vs, us, rfl, rfl, h1, h3, fun z => ?_, by omega, fun z => ?_, fun z p hp => ?_⟩))
        · subst z
          exact hz.1 (List.length_eq_zero_iff.mp l1)
        · subst z
          have : ys = [] := List.length_eq_zero_iff.mp l2
          subst this
          rw [List.append_nil] at k
          exact k _ _ _ (Go.refl sim) hx
        · obtain ⟨g, dn⟩ := Go.tup sim hp (h2.app h4)
          exact k _ _ _ g dn
      · cases e
    · cases e
  · rename_i i j
    split at e
    · split at e
      · rename_i hz
        cases e
        exact .inr (.inr (.inr ⟨i, j, hx.str_inv, hy.str_inv, hz, k _ _ _ (Go.refl sim) (den_str _)⟩))
      · cases e
    · cases e
  · cases e

/-! ### data -/
mutual
theorem dat_dp {m : Nat → Addr} {S : Store} {H : Hp} (sim : Sim K m S H) (n : Nat) : ∀ (d : D) (v : V) (p : PyData), dat n S d = some p → Den K m S.length H d v → Dp K H v p
  | .non, v, p, e, h => by simp only [dat] at e; cases e; rw [h.non_inv]; exact .non
  | .bl b, v, p, e, h => by simp only [dat] at e; cases e; rw [h.bl_inv]; exact .bl b
  | .int b, v, p, e, h => by simp only [dat] at e; cases e; rw [h.int_inv]; exact .int b
  | .str b, v, p, e, h => by simp only [dat] at e; cases e; rw [h.str_inv]; exact .str b
  | .tup xs, v, p, e, h => by
    simp only [dat] at e
    obtain ⟨ps, e1, e2⟩ := mp1 e
    cases e2
    obtain ⟨a, vs, rfl, h1, h2⟩ := h.tup_inv
    exact .tup h1 (datL_dp sim n xs vs ps e1 h2)
  | .frz xs, v, p, e, h => by
    simp only [dat] at e
    obtain ⟨ps, e1, e2⟩ := mp1 e
    cases e2
    obtain ⟨a, vs, rfl, h1, h2⟩ := h.frz_inv
    exact .lst h1.sq (datL_dp sim n xs vs ps e1 h2)
  | .ref k, v, p, e, h => by
    cases n with
    | zero => simp only [dat] at e; cases e
    | succ n =>
      simp only [dat] at e
      cases hk : S[k]? with
      | none => rw [hk] at e; cases e
      | some xs =>
        rw [hk] at e
        obtain ⟨ps, e1, e2⟩ := mp1 e
        cases e2
        obtain ⟨vs, h1, h2⟩ := sim.cell k xs hk
        rw [h.ref_inv.1]
        exact .lst (SqL.of h1) (datL_dp sim n xs vs ps e1 h2)
  termination_by d => (n, sizeOf d)
theorem datL_dp {m : Nat → Addr} {S : Store} {H : Hp} (sim : Sim K m S H) (n : Nat) : ∀ (d : List D) (v : List V) (p : List PyData), datL n S d = some p → DenL K m S.length H d v → DpAll K H v p
  | [], v, p, e, h => by simp only [datL] at e; cases e; simp only [DenL] at h; subst h; exact .nil
  | d :: ds, v, p, e, h => by
    simp only [datL] at e
    simp only [DenL] at h
    obtain ⟨v1, r, rfl, h1, h2⟩ := h
    cases e1 : dat n S d with
    | none => rw [e1] at e; cases e
    | some x =>
      cases e2 : datL n S ds with
      | none => rw [e1, e2] at e; cases e
      | some xs =>
        rw [e1, e2] at e
        cases e
        exact .cons (dat_dp sim n d v1 x e1 h1) (datL_dp sim n ds r xs e2 h2)
  termination_by ds => (n, sizeOf ds)
end

/-! ### comparisons -/
def cop : Cm → CmpOp
  | .lt => .Lt | .le => .LtE | .gt => .Gt | .ge => .GtE | .eq => .Eq | .ne => .NotEq | .isn => .Is | .notn => .IsNot | .inn => .In | .notin => .NotIn
def rC (K : PySem.W.Frag) (o : Cm) : R2 := fun x y H Q => match o with
  | .lt => rI0 (fun i j => .bl (decide (i < j))) x y H Q
  | .le => rI0 (fun i j => .bl (decide (i ≤ j))) x y H Q
  | .gt => rI0 (fun i j => .bl (decide (j < i))) x y H Q
  | .ge => rI0 (fun i j => .bl (decide (j ≤ i))) x y H Q
  | .eq => rEq x y H Q ∨ rEqD K x y H Q
  | .ne => rNe x y H Q ∨ rNeD K x y H Q
  | .isn => y = .non ∧ Q (.bl (decide (x = .non))) H
  | .notn => y = .non ∧ Q (.bl (!decide (x = .non))) H
  | .inn => rIn K false x y H Q
  | .notin => rIn K true x y H Q
theorem cm_ok {X : Cx} (hu : X.A.units + 64 < cLine) : ∀ o : Cm, OpR X (compareOp (cop o)) (rC X.K o)
  | .lt => OpR.mn op_lt fun x y H Q h => h
  | .le => OpR.mn op_le fun x y H Q h => h
  | .gt => OpR.mn op_gt fun x y H Q h => h
  | .ge => OpR.mn op_ge fun x y H Q h => h
  | .eq => OpR.mn (OpR.or op_eq (op_eqD hu)) fun x y H Q h => h
  | .ne => OpR.mn (OpR.or op_ne (op_neD hu)) fun x y H Q h => h
  | .isn => OpR.mn op_isN fun x y H Q h => h
  | .notn => OpR.mn op_notN fun x y H Q h => h
  | .inn => OpR.mn op_in_seq fun x y H Q h => h
  | .notin => OpR.mn op_notIn_seq fun x y H Q h => h
theorem seq_den {m : Nat → Addr} {S : Store} {H : Hp} (sim : Sim K m S H) {d : D} {v : V} {xs : List D} (h : Den K m S.length H d v) (e : seqOf S d = some xs) :
    ∃ a vs, v = .ref a ∧ (SqL K H a vs ∨ SqT K H a vs) ∧ DenL K m S.length H xs vs := by
  cases d with
  | tup ys => cases e; obtain ⟨a, vs, rfl, h1, h2⟩ := h.tup_inv; exact ⟨a, vs, rfl, .inr h1, h2⟩
  | frz ys => cases e; obtain ⟨a, vs, rfl, h1, h2⟩ := h.frz_inv; exact ⟨a, vs, rfl, .inl h1.sq, h2⟩
  | ref n => obtain ⟨vs, h1, h2⟩ := sim.cell n xs e; exact ⟨_, vs, h.ref_inv.1, .inl (SqL.of h1), h2⟩
  | _ => cases e
theorem ints_den {m : Nat → Addr} {L : Nat} {H : Hp} : ∀ {xs : List D} {vs : List V} {ns : List Int}, intsOf xs = some ns → DenL K m L H xs vs → vs = ns.map V.int
  | [], vs, ns, e, h => by cases e; simp only [DenL] at h; subst h; rfl
  | .int i :: ds, vs, ns, e, h => by
    obtain ⟨r, e1, e2⟩ := mp1 (show (intsOf ds).map (i :: ·) = some ns from e)
    subst e2
    simp only [DenL] at h
    obtain ⟨v, r', rfl, h1, h2⟩ := h
    rw [h1.int_inv, ints_den e1 h2]
    rfl
  | .non :: _, _, _, e, _ => by cases e
  | .bl _ :: _, _, _, e, _ => by cases e
  | .str _ :: _, _, _, e, _ => by cases e
  | .tup _ :: _, _, _, e, _ => by cases e
  | .ref _ :: _, _, _, e, _ => by cases e
  | .frz _ :: _, _, _, e, _ => by cases e
theorem inV_ints (i : Int) : ∀ ns : List Int, inV (.int i) (ns.map V.int) = decide (i ∈ ns) := by
  intro ns
  unfold inV
  rw [List.any_map, Bool.eq_iff_iff]
  simp only [List.any_eq_true, decide_eq_true_eq, Function.comp]
  constructor
  · rintro ⟨x, hx, e⟩
    have : x = i := by simpa [eqV] using e
    rw [← this]; exact hx
  · intro h
    exact ⟨i, h, by simp [eqV]⟩
theorem flat_ints : ∀ ns : List Int, (ns.map V.int).all flatV = true := by
  intro ns
  rw [List.all_map, List.all_eq_true]
  intro x _
  rfl
theorem eq_good {m : Nat → Addr} {S : Store} {H : Hp} (sim : Sim K m S H) {dx dy : D} {x y : V} {c : Bool} (hx : Den K m S.length H dx x) (hy : Den K m S.length H dy y) (e : eqR dx dy S = some c) :
    (scal x y = true ∧ decide (x = y) = c) ∨ ∃ d f, Dp K H x d ∧ Dp K H y f ∧ SeqAt.shaped d = true ∧ SeqAt.shaped f = true ∧ PyData.eqv d f = c := by
  have data : (∃ d f, dat 8 S dx = some d ∧ dat 8 S dy = some f ∧ SeqAt.shaped d = true ∧ SeqAt.shaped f = true ∧ PyData.eqv d f = c) →
      ∃ d f, Dp K H x d ∧ Dp K H y f ∧ SeqAt.shaped d = true ∧ SeqAt.shaped f = true ∧ PyData.eqv d f = c := by
    rintro ⟨d, f, h1, h2, h3, h4, h5⟩
    exact ⟨d, f, dat_dp sim 8 _ _ _ h1 hx, dat_dp sim 8 _ _ _ h2 hy, h3, h4, h5⟩
  unfold eqR at e
  split at e
  · rw [hx.int_inv, hy.int_inv]; cases e; exact .inl ⟨rfl, by simp⟩
  · rw [hx.str_inv, hy.str_inv]; cases e; exact .inl ⟨rfl, by simp⟩
  · rw [hx.bl_inv, hy.bl_inv]; cases e; exact .inl ⟨rfl, by simp⟩
  · refine .inr (data ?_)
    split at e
    · rename_i d f h1 h2
      split at e
      · rename_i h3
        cases e
        exact ⟨d, f, h1, h2, h3.1, h3.2, rfl⟩
      · cases e
    · cases e
theorem isNon_den {m : Nat → Addr} {L : Nat} {H : Hp} {d : D} {x : V} (h : Den K m L H d x) : decide (x = V.non) = isNon d := by
  cases d with
  | non => rw [h.non_inv]; rfl
  | bl b => rw [h.bl_inv]; rfl
  | int b => rw [h.int_inv]; rfl
  | str b => rw [h.str_inv]; rfl
  | tup b => obtain ⟨a, vs, rfl, _⟩ := h.tup_inv; rfl
  | ref b => rw [h.ref_inv.1]; rfl
  | frz b => obtain ⟨a, vs, rfl, _⟩ := h.frz_inv; rfl
theorem in_good {m : Nat → Addr} {S : Store} {H : Hp} (sim : Sim K m S H) {dx dy : D} {x y : V} {c : Bool} (hx : Den K m S.length H dx x) (hy : Den K m S.length H dy y) (e : inR dx dy S = some c) :
    ∃ p xs, y = .ref p ∧ (SqL K H p xs ∨ SqT K H p xs) ∧ flatV x = true ∧ xs.all flatV = true ∧ inV x xs = c := by
  unfold inR at e
  split at e
  · rename_i i xs h1
    obtain ⟨ns, e1, e2⟩ := mp1 e
    obtain ⟨a, vs, rfl, h2, h3⟩ := seq_den sim hy h1
    have := ints_den e1 h3
    subst this
    rw [hx.int_inv]
    exact ⟨a, _, rfl, h2, rfl, flat_ints ns, by rw [inV_ints]; exact e2⟩
  · cases e
theorem cm_good (o : Cm) {m : Nat → Addr} {S : Store} {H : Hp} {x y : V} {dx dy : D} {c : Bool} {Q : VK} (sim : Sim K m S H) (hx : Den K m S.length H dx x) (hy : Den K m S.length H dy y) (e : cmR o dx dy S = some c) (k : Q (.bl c) H) : rC K o x y H Q := by
  unfold cmR at e
  split at e
  · rw [hx.int_inv, hy.int_inv]; cases e; exact ⟨_, _, rfl, rfl, k⟩
  · rw [hx.int_inv, hy.int_inv]; cases e; exact ⟨_, _, rfl, rfl, k⟩
  · rw [hx.int_inv, hy.int_inv]; cases e; exact ⟨_, _, rfl, rfl, k⟩
  · rw [hx.int_inv, hy.int_inv]; cases e; exact ⟨_, _, rfl, rfl, k⟩
  · rcases eq_good sim hx hy e with ⟨h1, h2⟩ | ⟨d, f, h1, h2, h3, h4, h5⟩
    · exact .inl ⟨h1, by rw [h2]; exact k⟩
    · exact .inr ⟨d, f, h1, h2, h3, h4, by rw [h5]; exact k⟩
  · obtain ⟨b, e1, e2⟩ := mp1 e
    subst e2
    rcases eq_good sim hx hy e1 with ⟨h1, h2⟩ | ⟨d, f, h1, h2, h3, h4, h5⟩
    · exact .inl ⟨h1, by rw [h2]; exact k⟩
    · exact .inr ⟨d, f, h1, h2, h3, h4, by rw [h5]; exact k⟩
  · cases e; exact ⟨hy.non_inv, by rw [isNon_den hx]; exact k⟩
  · cases e; exact ⟨hy.non_inv, by rw [isNon_den hx]; exact k⟩
  · obtain ⟨p, xs, h1, h2, h3, h4, h5⟩ := in_good sim hx hy e
    exact ⟨p, xs, h1, h2, h3, h4, by simp only [Bool.false_eq_true, if_false]; rw [h5]; exact k⟩
  · obtain ⟨b, e1, e2⟩ := mp1 e
    subst e2
    obtain ⟨p, xs, h1, h2, h3, h4, h5⟩ := in_good sim hx hy e1
    exact ⟨p, xs, h1, h2, h3, h4, by simp only [if_true]; rw [h5]; exact k⟩
  · cases e
theorem cm_good2 (o : Cm) : Good2 K (fun x y S => (cmR o x y S).map fun c => (.bl c, S)) (rC K o) := by
  intro m S H x y dx dy d S' Q sim hx hy e k
  obtain ⟨c, e1, e2⟩ := mp1 e
  cases e2
  exact cm_good o sim hx hy e1 (k _ _ _ (Go.refl sim) (den_bl c))
theorem tru_good {m : Nat → Addr} {S : Store} {H : Hp} (sim : Sim K m S H) {d : D} {x : V} {c : Bool} (h : Den K m S.length H d x) (e : truR d S = some c) : TruV K x H c := by
  unfold truR at e
  split at e
  · rw [h.bl_inv]; cases e; exact rfl
  · rw [h.non_inv]; cases e; exact rfl
  · rw [h.int_inv]; cases e; exact rfl
  · rename_i n
    obtain ⟨xs, e1, e2⟩ := mp1 e
    obtain ⟨vs, h1, h2⟩ := sim.cell n xs e1
    rw [h.ref_inv.1]
    refine .inl ⟨vs, SqL.of h1, ?_⟩
    rw [← e2]
    have := h2.len
    cases xs <;> cases vs <;> simp_all
  · rename_i xs
    obtain ⟨a, vs, rfl, h1, h2⟩ := h.tup_inv
    cases e
    refine .inr (.inl ⟨vs, h1, ?_⟩)
    have := h2.len
    cases xs <;> cases vs <;> simp_all
  · cases e
end
end Ev

set_option Elab.async false
set_option linter.all false
set_option maxRecDepth 100000
set_option maxHeartbeats 1000000
namespace Ev
open PySem PySem.Spec PyProof.Rows L2

/-! ### repr -/
def rRepr (K : PySem.W.Frag) : List V → Hp → VK → Prop := fun vs H Q => ∃ a d, vs = [.ref a] ∧ Dp K H (.ref a) d ∧ d.showable = true ∧ d.hasDict = false ∧ d.shown.length ≤ sizeLine ∧ d.depth ≤ 20 ∧ Q (.str d.shown) H
theorem cr_repr {X : Cx} (hg : X.A.guards = some []) (hu : X.A.units + 64 < cLine) : CallR X (.builtin "repr") (rRepr X.K) := by
  intro pins s σ H xs us Q I r h
  obtain ⟨a, d, rfl, hd, h1, h2, h3, h4, q⟩ := h
  have e := Vals.ref1 r
  subst e
  obtain ⟨as, rd⟩ := Dp.reads I d (.ref a) (.ref a) hd rfl
  exact repr_of_reads' rd h1 (noDict_no h2) hg (by omega) (fun _ _ e => e) (fun h' u tk hk => ⟨.str d.shown, H, I.kept (t' := tk) hk, ⟨_, rfl⟩, q⟩) h3
where noDict_no {d : PyData} {as : List Addr} (h : d.hasDict = false) : d.hasDict = true → sysModules ∉ as := PyData.noDict_hsm h

/-! ### defs, called where no guard runs -/
structure FnG (P : Program) (w : World) (K : PySem.W.Frag) (mg : Str → Option Value) (base : Heap) (CX : CXT) (k : Nat) (f : Addr) (fd : FuncData) (ps : List Str) (sp : Sp) : Prop where
  len : ∀ vs H Q E, sp vs H Q E → vs.length = ps.length
  run : ∀ (A : Around) (outer : List PySem.Env) (s : Shared) (H : Hp) (args : Args) (us : List Value) (vs : List V) (Q : VK) (E : XK), Room k A → A.guards = some [] →
    Env0 P w K mg base A outer s H → BindsTo s fd args (ps.zip us) → Vals vs us → sp vs H Q E → codeAny (model P w) A (.call (.ref f) args) (CR CX outer P w H s Q E) s
section
variable {X : Cx} {CX : CXT} {k : Nat} {f : Addr} {fd : FuncData} {ps ks : List Str} {sp : Sp} {E : XK} {x : Str} {p pos : Pos} {e : Expr} {es : List Expr} {kws : List Keyword} {t tk : TA}
theorem FnG.fin {pins : List (Addr × Obj)} {σ : L2.St} {H : Hp} {s : Shared} {Q : VK} {args : Args} {us : List Value} {vs : List V} (F : FnG X.prog X.w X.K X.mg X.base CX k f fd ps sp) (hr : Room k X.A) (hg : X.A.guards = some []) (hx : Passes CX X E)
    (I : Inv X pins σ H s) (hb : BindsTo s fd args (ps.zip us)) (r : Vals vs us) (h : sp vs H Q E) : codeAny (model X.prog X.w) X.A (.call (.ref f) args) (fun r s' => match r with
      | .ok (.ret u) => EP X pins σ Q u s'
      | .ok _ => False
      | .error e => X.xe e s') s := by
  refine codeAny_mono (F.run X.A X.stack s H args us vs Q E hr hg I.env0 hb r h) fun r s' hq => ?_
  cases r with
  | error e => exact hx pins σ H s e s' I hq
  | ok fl =>
    cases fl with
    | ret u => exact I.after hq
    | next => exact hq
    | brk => exact hq
    | cont => exact hq
/-- f(e, ..) -/
theorem pe_callG (F : FnG X.prog X.w X.K X.mg X.base CX k f fd ps sp) (hr : Room k X.A) (hg : X.A.guards = some []) (gl : Gl X x) (hm : X.mg x = some (.ref f)) (hk : PySem.W.keepIn X.K (.ref f) = true) (hb : L2.Binds X.K fd ps []) (hx : Passes CX X E)
    (ha : PA X (e :: es) t) (hdb : (x == ("__debug__" : Str)) = false) (he : starEach (e :: es) X.env = (false, eval e X.env) :: starEach es X.env) (hpl : (backTo pos (starEach es X.env)).any (·.1) = false) :
    PE X (.Call (.Name x p) (e :: es) [] pos) (tCall sp [] E t) := by
  refine ⟨fun pins s σ H Q I h => wpAny_Call_Name_kw (ld_glob I gl hm ?_ hdb)⟩
  refine PySem.W.callWith_K (h₀ := X.base) I.ok.mod.kin hk (thn (ha.run pos pins s σ H _ I h) fun us s1 ⟨vs, H1, I1, r, q⟩ => ⟨I1.kIn, ?_⟩) he hpl
  have q' : sp vs H1 Q E := by simpa using q
  have hl : (us ++ ([] : List Value)).length = ps.length := by rw [List.append_nil, ← r.length]; exact F.len _ _ _ _ q'
  have hb' := hb s1 us I1.kIn hl
  rw [List.append_nil] at hb'
  refine wpAny_call (codeAny_mono (F.fin hr hg hx I1 hb' r q') fun r s' hq => ?_)
  cases r with
  | error e => exact hq
  | ok fl => cases fl <;> exact hq
theorem pe_callG0 (F : FnG X.prog X.w X.K X.mg X.base CX k f fd ps sp) (hr : Room k X.A) (hg : X.A.guards = some []) (gl : Gl X x) (hm : X.mg x = some (.ref f)) (hk : PySem.W.keepIn X.K (.ref f) = true) (hb : L2.Binds X.K fd ps []) (hx : Passes CX X E)
    (hdb : (x == ("__debug__" : Str)) = false) : PE X (.Call (.Name x p) [] [] pos) (tCall sp [] E tNil) := by
  refine ⟨fun pins s σ H Q I h => wpAny_Call_Name_kw (ld_glob I gl hm ?_ hdb)⟩
  have q' : sp [] H Q E := h
  have hl : (([] : List Value) ++ ([] : List Value)).length = ps.length := (F.len _ _ _ _ q')
  have hb' := hb s [] I.kIn hl
  exact PySem.W.callWith_K0 I.kIn hk (wpAny_call (codeAny_mono (F.fin hr hg hx I hb' .nil q') fun r s' hq => by
    cases r with
    | error e => exact hq
    | ok fl => cases fl <;> exact hq))
/-- f(e, .., k = v, ..) -/
theorem pe_callGK {g : List Value → List Value → List Value} {gV : List V → List V → List V} (F : FnG X.prog X.w X.K X.mg X.base CX k f fd ps sp) (hr : Room k X.A) (hg : X.A.guards = some []) (gl : Gl X x) (hm : X.mg x = some (.ref f)) (hk : PySem.W.keepIn X.K (.ref f) = true) (hb : KBinds X.K fd ps ks g gV) (hx : Passes CX X E)
    (ha : PA X (e :: es) t) (hkw : PK X kws tk) (hall : (backToKw pos (keywordEach kws X.env)).all (·.1.isSome) = true) (hks : (backToKw pos (keywordEach kws X.env)).filterMap (·.1) = ks)
    (hdb : (x == ("__debug__" : Str)) = false) (he : starEach (e :: es) X.env = (false, eval e X.env) :: starEach es X.env)
    (hpl : ((backTo pos (starEach (e :: es) X.env)).any (·.1) || (backToKw pos (keywordEach kws X.env)).any (·.1.isNone)) = false) :
    PE X (.Call (.Name x p) (e :: es) kws pos) (tCallK sp gV E t tk) := by
  refine ⟨fun pins s σ H Q I h => wpAny_Call_Name_kw (ld_glob I gl hm ?_ hdb)⟩
  refine PySem.W.callWith_KW (h₀ := X.base) I.ok.mod.kin hk hall (thn (ha.run pos pins s σ H _ I h) fun us s1 ⟨vs, H1, I1, r, q⟩ => ?_) hpl he
  refine thn (hkw.run pos pins s1 σ H1 _ I1 q) fun ws s2 ⟨zs, H2, I2, rz, q2⟩ => ⟨I2.kIn, ?_⟩
  rw [hks]
  have r2 := hb.rel r rz
  have hl : (g us ws).length = ps.length := by rw [← r2.length]; exact F.len _ _ _ _ q2
  exact wpAny_call (codeAny_mono (F.fin hr hg hx I2 (hb.to s2 us ws I2.kIn hl) r2 q2) fun r s' hq => by
    cases r with
    | error e => exact hq
    | ok fl => cases fl <;> exact hq)
end
end Ev

set_option Elab.async false
set_option linter.all false
set_option maxRecDepth 100000
set_option maxHeartbeats 1000000
namespace Ev
open PySem PySem.Spec PyProof.Rows L2

section
variable {X : Cx} {CX : CXT} {k : Nat} {f : Addr} {fd : FuncData} {ps ks : List Str} {sp : Sp} {E : XK} {x : Str} {p pos : Pos} {kws : List Keyword} {tk : TA}
/-- f(k = v, ..) -/
theorem pe_callGK0 {g : List Value → List Value → List Value} {gV : List V → List V → List V} (F : FnG X.prog X.w X.K X.mg X.base CX k f fd ps sp) (hr : Room k X.A) (hg : X.A.guards = some []) (gl : Gl X x) (hm : X.mg x = some (.ref f)) (hk : PySem.W.keepIn X.K (.ref f) = true) (hb : KBinds X.K fd ps ks g gV) (hx : Passes CX X E)
    (hkw : PK X kws tk) (hall : (backToKw pos (keywordEach kws X.env)).all (·.1.isSome) = true) (hks : (backToKw pos (keywordEach kws X.env)).filterMap (·.1) = ks)
    (hdb : (x == ("__debug__" : Str)) = false)
    (hpl : ((backTo pos (starEach [] X.env)).any (·.1) || (backToKw pos (keywordEach kws X.env)).any (·.1.isNone)) = false) :
    PE X (.Call (.Name x p) [] kws pos) (tCallK sp gV E tNil tk) := by
  refine ⟨fun pins s σ H Q I h => wpAny_Call_Name_kw (ld_glob I gl hm ?_ hdb)⟩
  have h' : tk σ H fun zs H2 => sp (gV [] zs) H2 Q E := h
  refine PySem.W.callWith_KW0 (h₀ := X.base) I.ok.mod.kin hk hall (thn (hkw.run pos pins s σ H _ I h') fun ws s2 ⟨zs, H2, I2, rz, q2⟩ => ⟨I2.kIn, ?_⟩) hpl
  rw [hks]
  have r2 := hb.rel .nil rz
  have hl : (g [] ws).length = ps.length := by rw [← r2.length]; exact F.len _ _ _ _ q2
  exact wpAny_call (codeAny_mono (F.fin hr hg hx I2 (hb.to s2 [] ws I2.kIn hl) r2 q2) fun r s' hq => by
    cases r with
    | error e => exact hq
    | ok fl => cases fl <;> exact hq)
end

section
variable {K : PySem.W.Frag}
/-! ### argument lists, displays -/
theorem tr_nil {s : L2.St} {H : Hp} {Q : List V → Hp → Prop} (h : TRL K (fun _ S => some ([], S)) s H Q) : tNil s H Q := by
  obtain ⟨m, S, ρ, d, S', sim, env, e, k⟩ := h
  cases e
  exact k _ _ _ (Go.refl sim) DenL.nil
theorem tr_cons {fa : Env → Store → R} {fl : Env → Store → RL} {s : L2.St} {H : Hp} {Q : List V → Hp → Prop} (h : TRL K (fun r S => (fa r S).bind fun p => (fl r p.2).bind fun q => some (p.1 :: q.1, q.2)) s H Q) : tCons (TR K fa) (TRL K fl) s H Q := by
  obtain ⟨m, S, ρ, d, S', sim, env, e, k⟩ := h
  obtain ⟨⟨dx, S1⟩, e1, e⟩ := bnd e
  obtain ⟨⟨dl, S2⟩, e2, e⟩ := bnd e
  cases e
  exact ⟨m, S, ρ, dx, S1, sim, env, e1, fun x H1 m1 g1 hx => ⟨m1, S1, ρ, dl, S2, g1.sim, g1.env env, e2, fun y H2 m2 g2 hy => k _ _ _ (g1.trans g2) (DenL.cons (g2.den hx) hy)⟩⟩
theorem tr_tup {fl : Env → Store → RL} {s : L2.St} {H : Hp} {Q : VK} (h : TR K (fun r S => (fl r S).bind fun p => if p.1.length ≤ sizeLine then some (.tup p.1, p.2) else none) s H Q) : tTup (TRL K fl) s H Q := by
  obtain ⟨m, S, ρ, d, S', sim, env, e, k⟩ := h
  obtain ⟨⟨dx, S1⟩, e1, e⟩ := bnd e
  dsimp only at e
  split at e
  · rename_i hz
    cases e
    exact ⟨m, S, ρ, dx, _, sim, env, e1, fun x H1 m1 g1 hx => ⟨by rw [← hx.len]; exact hz, fun p hp => let ⟨g2, dn⟩ := Go.tup g1.sim hp hx; k _ _ _ (g1.trans g2) dn⟩⟩
  · cases e
theorem tr_lst {fl : Env → Store → RL} {s : L2.St} {H : Hp} {Q : VK} (h : TR K (fun r S => (fl r S).bind fun p => if p.1.length ≤ sizeLine then some (.ref p.2.length, p.2 ++ [p.1]) else none) s H Q) : tLst (TRL K fl) s H Q := by
  obtain ⟨m, S, ρ, d, S', sim, env, e, k⟩ := h
  obtain ⟨⟨dx, S1⟩, e1, e⟩ := bnd e
  dsimp only at e
  split at e
  · rename_i hz
    cases e
    exact ⟨m, S, ρ, dx, _, sim, env, e1, fun x H1 m1 g1 hx => ⟨by rw [← hx.len]; exact hz, fun p hp => let ⟨g2, dn⟩ := Go.lst g1.sim hp hx; k _ _ _ (g1.trans g2) dn⟩⟩
  · cases e

/-! ### names, constants, bools -/
theorem tr_var {i : Nat} {s : L2.St} {H : Hp} {Q : VK} (h : TR K (fun r S => match r[i]? with
    | some (some d) => some (d, S)
    | _ => none) s H Q) : tVar i s H Q := by
  obtain ⟨m, S, ρ, d, S', sim, env, e, k⟩ := h
  dsimp only at e
  split at e
  · rename_i d' hd
    cases e
    obtain ⟨v, h1, h2⟩ := env.at_ i _ hd
    exact ⟨v, h1, k _ _ _ (Go.refl sim) h2⟩
  · cases e
def flatD : D → Option V
  | .non => some .non
  | .bl b => some (.bl b)
  | .int i => some (.int i)
  | .str x => some (.str x)
  | _ => none
theorem tr_cst {d : D} {v : V} (hv : flatD d = some v) {s : L2.St} {H : Hp} {Q : VK} (h : TR K (fun _ S => some (d, S)) s H Q) : tC v s H Q := by
  obtain ⟨m, S, ρ, d', S', sim, env, e, k⟩ := h
  cases e
  refine k _ _ _ (Go.refl sim) ?_
  cases d <;> first
    | (cases hv; first | exact den_non | exact den_bl _ | exact den_int _ | exact den_str _)
    | cases hv
theorem tr_neg {fa : Env → Store → R} {s : L2.St} {H : Hp} {Q : VK} (h : TR K (fun r S => (fa r S).bind fun p => match p.1 with
    | .int i => some (.int (-i), p.2)
    | _ => none) s H Q) : tUn (rU fun i => .int (-i)) (TR K fa) s H Q := by
  obtain ⟨m, S, ρ, d, S', sim, env, e, k⟩ := h
  obtain ⟨⟨dx, S1⟩, e1, e⟩ := bnd e
  dsimp only at e
  split at e
  · cases e
    exact ⟨m, S, ρ, _, _, sim, env, e1, fun x H1 m1 g1 hx => ⟨_, hx.int_inv, k _ _ _ g1 (den_int _)⟩⟩
  · cases e
theorem tr_bits {fa : Env → Store → R} {s : L2.St} {H : Hp} {Q : VK} (h : TR K (fun r S => (fa r S).bind fun p => match p.1 with
    | .int i => some (.int (Builtin.Int.intBits i : Nat), p.2)
    | _ => none) s H Q) : tBits (TR K fa) s H Q := by
  obtain ⟨m, S, ρ, d, S', sim, env, e, k⟩ := h
  obtain ⟨⟨dx, S1⟩, e1, e⟩ := bnd e
  dsimp only at e
  split at e
  · cases e
    exact ⟨m, S, ρ, _, _, sim, env, e1, fun x H1 m1 g1 hx => ⟨_, hx.int_inv, k _ _ _ g1 (den_int _)⟩⟩
  · cases e
theorem tr_and {fa fb : Env → Store → R} {s : L2.St} {H : Hp} {Q : VK} (h : TR K (fun r S => (fa r S).bind fun p => match p.1 with
    | .bl true => fb r p.2
    | .bl false => some (.bl false, p.2)
    | _ => none) s H Q) : tAndV (TR K fa) (TR K fb) s H Q := by
  obtain ⟨m, S, ρ, d, S', sim, env, e, k⟩ := h
  obtain ⟨⟨dx, S1⟩, e1, e⟩ := bnd e
  dsimp only at e
  refine ⟨m, S, ρ, dx, S1, sim, env, e1, fun x H1 m1 g1 hx => ?_⟩
  split at e
  · exact ⟨true, hx.bl_inv, iteT ⟨m1, S1, ρ, d, S', g1.sim, g1.env env, e, fun v H2 m2 g2 hv => k _ _ _ (g1.trans g2) hv⟩⟩
  · cases e
    exact ⟨false, hx.bl_inv, iteF (k _ _ _ g1 (den_bl _))⟩
  · cases e
theorem tr_or {fa fb : Env → Store → R} {s : L2.St} {H : Hp} {Q : VK} (h : TR K (fun r S => (fa r S).bind fun p => match p.1 with
    | .bl false => fb r p.2
    | .bl true => some (.bl true, p.2)
    | _ => none) s H Q) : tOrV (TR K fa) (TR K fb) s H Q := by
  obtain ⟨m, S, ρ, d, S', sim, env, e, k⟩ := h
  obtain ⟨⟨dx, S1⟩, e1, e⟩ := bnd e
  dsimp only at e
  refine ⟨m, S, ρ, dx, S1, sim, env, e1, fun x H1 m1 g1 hx => ?_⟩
  split at e
  · exact ⟨false, hx.bl_inv, iteF ⟨m1, S1, ρ, d, S', g1.sim, g1.env env, e, fun v H2 m2 g2 hv => k _ _ _ (g1.trans g2) hv⟩⟩
  · cases e
    exact ⟨true, hx.bl_inv, iteT (k _ _ _ g1 (den_bl _))⟩
  · cases e
theorem tr_not {fa : Env → Store → R} {s : L2.St} {H : Hp} {Q : VK} (h : TR K (fun r S => (fa r S).bind fun p => match p.1 with
    | .bl c => some (.bl (!c), p.2)
    | _ => none) s H Q) : tNotV (TR K fa) s H Q := by
  obtain ⟨m, S, ρ, d, S', sim, env, e, k⟩ := h
  obtain ⟨⟨dx, S1⟩, e1, e⟩ := bnd e
  dsimp only at e
  split at e
  · cases e
    exact ⟨m, S, ρ, _, _, sim, env, e1, fun x H1 m1 g1 hx => ⟨_, hx.bl_inv, k _ _ _ g1 (den_bl _)⟩⟩
  · cases e
theorem tr_ite {fc : Env → Store → Option (Bool × Store)} {fa fb : Env → Store → R} {s : L2.St} {H : Hp} {Q : VK} (h : TR K (fun r S => (fc r S).bind fun p => if p.1 = true then fa r p.2 else fb r p.2) s H Q) : tIf (TRB K fc) (TR K fa) (TR K fb) s H Q := by
  obtain ⟨m, S, ρ, d, S', sim, env, e, k⟩ := h
  obtain ⟨⟨c, S1⟩, e1, e⟩ := bnd e
  dsimp only at e
  refine ⟨m, S, ρ, c, S1, sim, env, e1, fun H1 m1 g1 => ?_⟩
  split at e
  · rename_i hc
    rw [if_pos hc]
    exact ⟨m1, S1, ρ, d, S', g1.sim, g1.env env, e, fun v H2 m2 g2 hv => k _ _ _ (g1.trans g2) hv⟩
  · rename_i hc
    rw [if_neg hc]
    exact ⟨m1, S1, ρ, d, S', g1.sim, g1.env env, e, fun v H2 m2 g2 hv => k _ _ _ (g1.trans g2) hv⟩
/-! ### tests -/
theorem tb_and {fa fb : Env → Store → Option (Bool × Store)} {s : L2.St} {H : Hp} {Q : Bool → Hp → Prop} (h : TRB K (fun r S => (fa r S).bind fun p => if p.1 = true then fb r p.2 else some (false, p.2)) s H Q) : tAnd (TRB K fa) (TRB K fb) s H Q := by
  obtain ⟨m, S, ρ, d, S', sim, env, e, k⟩ := h
  obtain ⟨⟨c, S1⟩, e1, e⟩ := bnd e
  dsimp only at e
  refine ⟨m, S, ρ, c, S1, sim, env, e1, fun H1 m1 g1 => ?_⟩
  split at e
  · rename_i hc
    rw [if_pos hc]
    exact ⟨m1, S1, ρ, d, S', g1.sim, g1.env env, e, fun H2 m2 g2 => k _ _ (g1.trans g2)⟩
  · rename_i hc
    rw [if_neg hc]
    cases e
    exact k _ _ g1
theorem tb_or {fa fb : Env → Store → Option (Bool × Store)} {s : L2.St} {H : Hp} {Q : Bool → Hp → Prop} (h : TRB K (fun r S => (fa r S).bind fun p => if p.1 = true then some (true, p.2) else fb r p.2) s H Q) : tOr (TRB K fa) (TRB K fb) s H Q := by
  obtain ⟨m, S, ρ, d, S', sim, env, e, k⟩ := h
  obtain ⟨⟨c, S1⟩, e1, e⟩ := bnd e
  dsimp only at e
  refine ⟨m, S, ρ, c, S1, sim, env, e1, fun H1 m1 g1 => ?_⟩
  split at e
  · rename_i hc
    rw [if_pos hc]
    cases e
    exact k _ _ g1
  · rename_i hc
    rw [if_neg hc]
    exact ⟨m1, S1, ρ, d, S', g1.sim, g1.env env, e, fun H2 m2 g2 => k _ _ (g1.trans g2)⟩
theorem tb_not {fa : Env → Store → Option (Bool × Store)} {s : L2.St} {H : Hp} {Q : Bool → Hp → Prop} (h : TRB K (fun r S => (fa r S).bind fun p => some (!p.1, p.2)) s H Q) : tNot (TRB K fa) s H Q := by
  obtain ⟨m, S, ρ, d, S', sim, env, e, k⟩ := h
  obtain ⟨⟨c, S1⟩, e1, e⟩ := bnd e
  cases e
  exact ⟨m, S, ρ, _, _, sim, env, e1, fun H1 m1 g1 => k _ _ g1⟩
theorem tb_yes {s : L2.St} {H : Hp} {Q : Bool → Hp → Prop} (h : TRB K (fun _ S => some (true, S)) s H Q) : tYes s H Q := by
  obtain ⟨m, S, ρ, d, S', sim, env, e, k⟩ := h
  cases e
  exact k _ _ (Go.refl sim)
theorem tb_val {fa : Env → Store → R} {s : L2.St} {H : Hp} {Q : Bool → Hp → Prop} (h : TRB K (fun r S => (fa r S).bind fun p => (truR p.1 p.2).map fun c => (c, p.2)) s H Q) : (TR K fa) s H (fun x H' => ∃ k, TruV K x H' k ∧ Q k H') := by
  obtain ⟨m, S, ρ, d, S', sim, env, e, k⟩ := h
  obtain ⟨⟨dx, S1⟩, e1, e⟩ := bnd e
  obtain ⟨c, e2, e3⟩ := mp1 e
  cases e3
  exact ⟨m, S, ρ, dx, _, sim, env, e1, fun x H1 m1 g1 hx => ⟨_, tru_good g1.sim hx e2, k _ _ g1⟩⟩
theorem tb_cmp (o : Cm) {fa fb : Env → Store → R} {s : L2.St} {H : Hp} {Q : Bool → Hp → Prop} (h : TRB K (fun r S => (fa r S).bind fun p => (fb r p.2).bind fun q => (cmR o p.1 q.1 q.2).map fun c => (c, q.2)) s H Q) : tTest (tOp (rC K o) (TR K fa) (TR K fb)) s H Q := by
  obtain ⟨m, S, ρ, d, S', sim, env, e, k⟩ := h
  obtain ⟨⟨dx, S1⟩, e1, e⟩ := bnd e
  obtain ⟨⟨dy, S2⟩, e2, e⟩ := bnd e
  obtain ⟨c, e3, e4⟩ := mp1 e
  cases e4
  exact ⟨m, S, ρ, dx, S1, sim, env, e1, fun x H1 m1 g1 hx => ⟨m1, S1, ρ, dy, _, g1.sim, g1.env env, e2, fun y H2 m2 g2 hy => cm_good o g2.sim (g2.den hx) hy e3 ⟨_, rfl, k _ _ (g1.trans g2)⟩⟩⟩

/-! ### subscripts, slices -/
theorem atI_den {m : Nat → Addr} {L : Nat} {H : Hp} {xs : List D} {vs : List V} {i : Int} {d : D} (h : DenL K m L H xs vs) (e : atI xs i = some d) : ∃ v, atI vs i = some v ∧ Den K m L H d v := by
  unfold atI at e ⊢
  rw [← h.len]
  obtain ⟨j, e1, e2⟩ := bnd e
  obtain ⟨v, h1, h2⟩ := h.get e2
  exact ⟨v, by rw [e1]; exact h1, h2⟩
theorem ix_good : Good2 K (fun x i S => (ixR x i S).map fun d => (d, S)) (rIx K) := by
  intro m S H x y dx dy d S' Q sim hx hy e k
  obtain ⟨c, e1, e2⟩ := mp1 e
  cases e2
  unfold ixR at e1
  split at e1
  · rename_i xs i hs
    obtain ⟨a, vs, rfl, h1, h2⟩ := seq_den sim hx hs
    obtain ⟨v, h3, h4⟩ := atI_den h2 e1
    rcases h1 with h1 | h1
    · exact .inl ⟨a, vs, i, v, rfl, hy.int_inv, h1, h3, k _ _ _ (Go.refl sim) h4⟩
    · exact .inr (.inl ⟨a, vs, i, v, rfl, hy.int_inv, h1, h3, k _ _ _ (Go.refl sim) h4⟩)
  · cases e1
theorem cut_den {m : Nat → Addr} {L : Nat} {H : Hp} {xs : List D} {vs : List V} (h : DenL K m L H xs vs) (lo hi : Option Int) : DenL K m L H (cutD xs lo hi) (cutV vs lo hi) := by
  unfold cutD cutV
  rw [← h.len]
  exact (h.drop _).take _
def rSl (K : PySem.W.Frag) : V → Option Int → Option Int → Hp → VK → Prop := fun x lo hi H Q => rSlT K x lo hi H Q ∨ rSlL K x lo hi H Q
theorem tr_sli {fa : Env → Store → R} {fl fh : Env → Store → Option (Option Int × Store)} {s : L2.St} {H : Hp} {Q : VK} (h : TR K (fun r S => (fa r S).bind fun p => (fl r p.2).bind fun q => (fh r q.2).bind fun u => slR p.1 q.1 u.1 u.2) s H Q) :
    tSl (rSl K) (TR K fa) (TRO K fl) (TRO K fh) s H Q := by
  obtain ⟨m, S, ρ, d, S', sim, env, e, k⟩ := h
  obtain ⟨⟨dx, S1⟩, e1, e⟩ := bnd e
  obtain ⟨⟨lo, S2⟩, e2, e⟩ := bnd e
  obtain ⟨⟨hi, S3⟩, e3, e⟩ := bnd e
  refine ⟨m, S, ρ, dx, S1, sim, env, e1, fun x H1 m1 g1 hx => ⟨m1, S1, ρ, lo, S2, g1.sim, g1.env env, e2, fun H2 m2 g2 => ⟨m2, S2, ρ, hi, S3, g2.sim, g2.env (g1.env env), e3, fun H3 m3 g3 => ?_⟩⟩⟩
  have hx3 := (g2.trans g3).den hx
  have g := (g1.trans g2).trans g3
  dsimp only at e
  unfold slR at e
  split at e
  · rename_i xs
    split at e
    · rename_i hw
      cases e
      obtain ⟨a, vs, rfl, h1, h2⟩ := hx3.tup_inv
      refine .inl ⟨a, vs, rfl, h1, by rw [← h2.len]; exact hw, fun p hp => ?_⟩
      obtain ⟨g4, dn⟩ := Go.tup g3.sim hp (cut_den h2 lo hi)
      exact k _ _ _ (g.trans g4) dn
    · cases e
  · rename_i xs
    cases e
    obtain ⟨a, vs, rfl, h1, h2⟩ := hx3.frz_inv
    refine .inr ⟨a, vs, rfl, h1.sq, fun p hp => ?_⟩
    obtain ⟨g4, dn⟩ := Go.lst g3.sim hp (cut_den h2 lo hi)
    exact k _ _ _ (g.trans g4) dn
  · obtain ⟨xs, e4, e5⟩ := mp1 e
    cases e5
    obtain ⟨vs, h1, h2⟩ := g3.sim.cell _ xs e4
    refine .inr ⟨m3 _, vs, hx3.ref_inv.1, SqL.of h1, fun p hp => ?_⟩
    obtain ⟨g4, dn⟩ := Go.lst g3.sim hp (cut_den h2 lo hi)
    exact k _ _ _ (g.trans g4) dn
  · cases e
theorem to_none {s : L2.St} {H : Hp} {Q : Option Int → Hp → Prop} (h : TRO K (fun _ S => some (none, S)) s H Q) : tNoPart s H Q := by
  obtain ⟨m, S, ρ, d, S', sim, env, e, k⟩ := h
  cases e
  exact k _ _ (Go.refl sim)
theorem to_some {fa : Env → Store → R} {s : L2.St} {H : Hp} {Q : Option Int → Hp → Prop} (h : TRO K (fun r S => (fa r S).bind fun p => match p.1 with
    | .int i => some (some i, p.2)
    | _ => none) s H Q) : tPart (TR K fa) s H Q := by
  obtain ⟨m, S, ρ, d, S', sim, env, e, k⟩ := h
  obtain ⟨⟨dx, S1⟩, e1, e⟩ := bnd e
  dsimp only at e
  split at e
  · cases e
    exact ⟨m, S, ρ, _, _, sim, env, e1, fun x H1 m1 g1 hx => ⟨_, hx.int_inv, k _ _ g1⟩⟩
  · cases e

/-! ### built-ins -/
def rBi (K : PySem.W.Frag) (b : Bi) : List V → Hp → VK → Prop := match b with
  | .len => fun xs H Q => ∃ p ys, xs = [.ref p] ∧ (SqL K H p ys ∨ SqT K H p ys) ∧ Q (.int ys.length) H
  | .tuple => fun xs H Q => ∃ p ys, xs = [.ref p] ∧ ((SqL K H p ys ∧ ∀ l, H l = none → Q (.ref l) (upd H l (.tup ys))) ∨ (SqT K H p ys ∧ Q (.ref p) H))
  | .list => fun xs H Q => ∃ p ys, xs = [.ref p] ∧ (SqL K H p ys ∨ SqT K H p ys) ∧ ∀ l, H l = none → Q (.ref l) (upd H l (.lst ys))
  | .abs => fun xs H Q => ∃ i, xs = [.int i] ∧ Q (.int (if i < 0 then -i else i)) H
  | .sum => rSum K
  | .repr => rRepr K
  | .int => fun xs H Q => (∃ i, xs = [.int i] ∧ Q (.int i) H) ∨ ∃ k, xs = [.bl k] ∧ Q (.int (if k then 1 else 0)) H
def biV : Bi → Value
  | .len => .builtin "len" | .abs => .builtin "abs" | .sum => .builtin "sum" | .repr => .builtin "repr" | .tuple => .type "tuple" | .list => .type "list" | .int => .type "int"
theorem bi_ok {X : Cx} (hc : X.calm = true) (hg : X.A.guards = some []) (hu : X.A.units + 64 < cLine) : ∀ b : Bi, CallR X (biV b) (rBi X.K b)
  | .len => call_len_seq
  | .tuple => call_tuple_of
  | .list => call_list_of
  | .abs => call_abs
  | .sum => cr_sum hc
  | .repr => cr_repr hg hu
  | .int => call_int1
theorem den1 {m : Nat → Addr} {L : Nat} {H : Hp} {d : D} {vs : List V} (h : DenL K m L H [d] vs) : ∃ v, vs = [v] ∧ Den K m L H d v := by
  simp only [DenL] at h
  obtain ⟨v, r, rfl, h1, rfl⟩ := h
  exact ⟨v, rfl, h1⟩
theorem den0 {m : Nat → Addr} {L : Nat} {H : Hp} {vs : List V} (h : DenL K m L H [] vs) : vs = [] := by simpa only [DenL] using h
theorem tup_same {m : Nat → Addr} {S : Store} {H : Hp} (sim : Sim K m S H) {dx : D} {xs : List D} {x : V} (h : Den K m S.length H dx x) (e : seqOf S dx = some xs) (hn : ∀ ys, dx ≠ .tup ys) : ∃ a vs, x = .ref a ∧ SqL K H a vs ∧ DenL K m S.length H xs vs := by
  cases dx with
  | tup ys => exact absurd rfl (hn ys)
  | frz ys => cases e; obtain ⟨a, vs, rfl, h1, h2⟩ := h.frz_inv; exact ⟨a, vs, rfl, h1.sq, h2⟩
  | ref n => obtain ⟨vs, h1, h2⟩ := sim.cell n xs e; exact ⟨_, vs, h.ref_inv.1, SqL.of h1, h2⟩
  | _ => cases e
theorem bi_good (b : Bi) {m : Nat → Addr} {S : Store} {H : Hp} {vs : List V} {ds : List D} {d : D} {S' : Store} {Q : VK} (sim : Sim K m S H) (hv : DenL K m S.length H ds vs) (e : biR b ds S = some (d, S'))
    (k : ∀ v H' m', Go K m S H m' S' H' → Den K m' S'.length H' d v → Q v H') : rBi K b vs H Q := by
  unfold biR at e
  split at e
  · obtain ⟨xs, e1, e2⟩ := mp1 e
    cases e2
    obtain ⟨v, rfl, h1⟩ := den1 hv
    obtain ⟨a, us, rfl, h2, h3⟩ := seq_den sim h1 e1
    exact ⟨a, us, rfl, h2, by rw [← h3.len]; exact k _ _ _ (Go.refl sim) (den_int _)⟩
  · cases e
    obtain ⟨v, rfl, h1⟩ := den1 hv
    obtain ⟨a, us, rfl, h2, h3⟩ := h1.tup_inv
    exact ⟨a, us, rfl, .inr ⟨h2, k _ _ _ (Go.refl sim) h1⟩⟩
  · rename_i dx hne
    obtain ⟨xs, e1, e2⟩ := mp1 e
    cases e2
    obtain ⟨v, rfl, h1⟩ := den1 hv
    obtain ⟨a, us, rfl, h2, h3⟩ := tup_same sim h1 e1 hne
    refine ⟨a, us, rfl, .inl ⟨h2, fun l hl => ?_⟩⟩
    obtain ⟨g, dn⟩ := Go.tup sim hl h3
    exact k _ _ _ g dn
  · obtain ⟨xs, e1, e2⟩ := mp1 e
    cases e2
    obtain ⟨v, rfl, h1⟩ := den1 hv
    obtain ⟨a, us, rfl, h2, h3⟩ := seq_den sim h1 e1
    refine ⟨a, us, rfl, h2, fun l hl => ?_⟩
    obtain ⟨g, dn⟩ := Go.lst sim hl h3
    exact k _ _ _ g dn
  · cases e
    obtain ⟨v, rfl, h1⟩ := den1 hv
    rw [h1.int_inv]
    exact ⟨_, rfl, k _ _ _ (Go.refl sim) (den_int _)⟩
  · cases e
    obtain ⟨v, rfl, h1⟩ := den1 hv
    rw [h1.int_inv]
    exact .inl ⟨_, rfl, k _ _ _ (Go.refl sim) (den_int _)⟩
  · cases e
    obtain ⟨v, rfl, h1⟩ := den1 hv
    rw [h1.bl_inv]
    exact .inr ⟨_, rfl, k _ _ _ (Go.refl sim) (den_int _)⟩
  · rename_i dx
    split at e
    · rename_i ns hns
      obtain ⟨xs, e1, e2⟩ := bnd hns
      split at e
      · cases e
      · rename_i hne
        cases e
        obtain ⟨v, rfl, h1⟩ := den1 hv
        obtain ⟨a, us, rfl, h2, h3⟩ := tup_same sim h1 e1 (fun ys z => hne ys z)
        have := ints_den e2 h3
        subst this
        exact ⟨a, ns, rfl, h2, k _ _ _ (Go.refl sim) (den_int _)⟩
    · cases e
  · rename_i dx
    split at e
    · rename_i p hp
      split at e
      · rename_i hc
        cases e
        obtain ⟨v, rfl, h1⟩ := den1 hv
        have hd := dat_dp sim 8 _ _ _ hp h1
        obtain ⟨c1, c2, c3, c4, c5⟩ := hc
        have : ∃ a, v = .ref a := by
          cases dx with
          | tup _ => obtain ⟨a, _, e, _⟩ := h1.tup_inv; exact ⟨a, e⟩
          | frz _ => obtain ⟨a, _, e, _⟩ := h1.frz_inv; exact ⟨a, e⟩
          | ref _ => exact ⟨_, h1.ref_inv.1⟩
          | _ => cases c1
        obtain ⟨a, rfl⟩ := this
        exact ⟨a, p, rfl, hd, c2, c3, c4, c5, k _ _ _ (Go.refl sim) (den_str _)⟩
      · cases e
    · cases e
  · cases e
theorem tr_bi (b : Bi) {fl : Env → Store → RL} {s : L2.St} {H : Hp} {Q : VK} (h : TR K (fun r S => (fl r S).bind fun p => biR b p.1 p.2) s H Q) : tCB (rBi K b) (TRL K fl) s H Q := by
  obtain ⟨m, S, ρ, d, S', sim, env, e, k⟩ := h
  obtain ⟨⟨dl, S1⟩, e1, e⟩ := bnd e
  exact ⟨m, S, ρ, dl, S1, sim, env, e1, fun vs H1 m1 g1 hv => bi_good b g1.sim hv e fun v H' m' g2 hd => k _ _ _ (g1.trans g2) hd⟩
theorem rgV_den {m : Nat → Addr} {L : Nat} {H : Hp} (lo hi : Int) : DenL K m L H (rngD lo (hi - lo).toNat) (rgV lo hi) := by
  unfold rngD rgV
  generalize List.range (hi - lo).toNat = l
  induction l with
  | nil => exact DenL.nil
  | cons i l ih => exact DenL.cons (den_int _) ih
theorem tr_listRng {fa : Env → Store → R} {s : L2.St} {H : Hp} {Q : VK} (h : TR K (fun r S => (fa r S).bind fun p => match p.1 with
    | .int j => if inR62 j ∧ j.toNat ≤ sizeLine then some (.ref p.2.length, p.2 ++ [rngD 0 j.toNat]) else none
    | _ => none) s H Q) : tLstRg (tRg1 (TR K fa)) s H Q := by
  obtain ⟨m, S, ρ, d, S', sim, env, e, k⟩ := h
  obtain ⟨⟨dx, S1⟩, e1, e⟩ := bnd e
  dsimp only at e
  split at e
  · rename_i j
    split at e
    · rename_i hj
      cases e
      refine ⟨m, S, ρ, _, _, sim, env, e1, fun x H1 m1 g1 hx => ⟨j, hx.int_inv, ⟨by decide, by decide, hj.1.1, hj.1.2, by rw [Int.sub_zero]; exact hj.2⟩, fun q hq => ?_⟩⟩
      have hd : ∀ L, DenL K m1 L H1 (rngD 0 j.toNat) (rgV 0 j) := fun L => by
        have q := rgV_den (K := K) (m := m1) (L := L) (H := H1) 0 j
        rw [Int.sub_zero] at q
        exact q
      obtain ⟨g2, dn⟩ := Go.lst g1.sim hq (hd _)
      exact k _ _ _ (g1.trans g2) dn
    · cases e
  · cases e
theorem tr_tupRng {fa : Env → Store → R} {s : L2.St} {H : Hp} {Q : VK} (h : TR K (fun r S => (fa r S).bind fun p => match p.1 with
    | .int j => if inR62 j ∧ j.toNat ≤ sizeLine then some (.tup (rngD 0 j.toNat), p.2) else none
    | _ => none) s H Q) : tTupRg (tRg1 (TR K fa)) s H Q := by
  obtain ⟨m, S, ρ, d, S', sim, env, e, k⟩ := h
  obtain ⟨⟨dx, S1⟩, e1, e⟩ := bnd e
  dsimp only at e
  split at e
  · rename_i j
    split at e
    · rename_i hj
      cases e
      refine ⟨m, S, ρ, _, _, sim, env, e1, fun x H1 m1 g1 hx => ⟨j, hx.int_inv, ⟨by decide, by decide, hj.1.1, hj.1.2, by rw [Int.sub_zero]; exact hj.2⟩, fun q hq => ?_⟩⟩
      have hd : ∀ L, DenL K m1 L H1 (rngD 0 j.toNat) (rgV 0 j) := fun L => by
        have q := rgV_den (K := K) (m := m1) (L := L) (H := H1) 0 j
        rw [Int.sub_zero] at q
        exact q
      obtain ⟨g2, dn⟩ := Go.tup g1.sim hq (hd _)
      exact k _ _ _ (g1.trans g2) dn
    · cases e
  · cases e

/-! ### methods of lists -/
def rMt (m : Mt) : V → List V → Hp → VK → Prop := match m with
  | .pop => rPop
  | .popAt => rPopAt
  | .append => rAppend
  | .extend => rExtend
theorem mt_good (mt : Mt) {m : Nat → Addr} {S : Store} {H : Hp} {x : V} {dx : D} {vs : List V} {ds : List D} {d : D} {S' : Store} {Q : VK} (sim : Sim K m S H) (hx : Den K m S.length H dx x) (hv : DenL K m S.length H ds vs) (e : mtR mt dx ds S = some (d, S'))
    (k : ∀ v H' m', Go K m S H m' S' H' → Den K m' S'.length H' d v → Q v H') : rMt mt x vs H Q := by
  unfold mtR at e
  split at e
  · rename_i n
    split at e
    · cases e
    · rename_i xs hn
      obtain ⟨us, h1, h2⟩ := sim.cell n xs hn
      rw [hx.ref_inv.1]
      split at e
      · split at e
        · rename_i hz
          cases e
          obtain ⟨v, rfl, h3⟩ := den1 hv
          exact ⟨m n, us, v, rfl, rfl, h1, by rw [← h2.len]; exact hz, k _ _ _ (Go.set sim hn (h2.app (DenL.cons h3 DenL.nil))) den_non⟩
        · cases e
      · obtain ⟨y, e1, e2⟩ := mp1 e
        cases e2
        have := den0 hv
        subst this
        obtain ⟨v, h3, h4⟩ := h2.get e1
        rw [h2.len] at h3
        have hdl : DenL K m S.length H xs.dropLast us.dropLast := by
          rw [List.dropLast_eq_take, List.dropLast_eq_take, h2.len]
          exact h2.take _
        have g := Go.set sim hn hdl
        exact ⟨m n, us, v, rfl, rfl, h1, h3, k _ _ _ g (g.den h4)⟩
      · split at e
        · rename_i hi
          split at e
          · rename_i j hj
            obtain ⟨y, e1, e2⟩ := mp1 e
            cases e2
            obtain ⟨v, rfl, h3⟩ := den1 hv
            obtain ⟨v', h4, h5⟩ := h2.get e1
            have g := Go.set sim hn (h2.eraseIdx j)
            exact ⟨m n, us, _, j, v', rfl, by rw [h3.int_inv], h1, hi.1, hi.2, by rw [← h2.len]; exact hj, h4, k _ _ _ g (g.den h5)⟩
          · cases e
        · cases e
      · split at e
        · rename_i b zs hb
          split at e
          · rename_i hz
            cases e
            obtain ⟨v, rfl, h3⟩ := den1 hv
            obtain ⟨ws, h4, h5⟩ := sim.cell _ _ hb
            have l1 := h2.len
            have l2 := h5.len
            exact ⟨m n, _, us, ws, rfl, by rw [h3.ref_inv.1], h1, h4, by omega, k _ _ _ (Go.set sim hn (h2.app h5)) den_non⟩
          · cases e
        · cases e
      · cases e
  · cases e
theorem mt_ty (mt : Mt) {m : Nat → Addr} {S : Store} {H : Hp} {x : V} {dx : D} {ds : List D} {r : D × Store} {S0 : Store} (hl : S.length ≤ S0.length) (sim : Sim K m S H) (hx : Den K m S.length H dx x) (e : mtR mt dx ds S0 = some r) : tyV K "list" x H := by
  unfold mtR at e
  split at e
  · rename_i n
    obtain ⟨e1, e2⟩ := hx.ref_inv
    obtain ⟨us, h1, _⟩ := sim.cell n _ (List.getElem?_eq_getElem e2)
    rw [e1]
    exact .inl ⟨rfl, us, SqL.of h1⟩
  · cases e
theorem evl_grow : True := trivial
end
end Ev

set_option Elab.async false
set_option linter.all false
set_option maxRecDepth 100000
set_option maxHeartbeats 1000000
namespace Ev
open PySem PySem.Spec PyProof.Rows L2
section
variable {K : PySem.W.Frag}

/-! ### targets -/
def gTs : List Nat → TGs
  | [] => gNil
  | i :: is => gCons (gName i) (gTs is)
def gT (K : PySem.W.Frag) : Tg → TG
  | .nm i => gName i
  | .tp is => gTup K is.length (gTs is)
def slotsT : Tg → List Nat
  | .nm i => [i]
  | .tp is => is
theorem wipe_set {s : L2.St} {i : Nat} {x : Option V} : ∀ {vs : List Nat}, i ∈ vs → wipe (s.set i x) vs = wipe s vs
  | v :: vs, h => by
    unfold wipe
    by_cases hi : i ∈ vs
    · rw [wipe_set hi]
    · have hv : i = v := by
        rcases List.mem_cons.mp h with e | e
        · exact e
        · exact absurd e hi
      subst hv
      apply List.ext_getElem?
      intro j
      have key : ∀ (ws : List Nat), i ∉ ws → wipe (s.set i x) ws = (wipe s ws).set i x := by
        intro ws
        induction ws with
        | nil => intro _; rfl
        | cons w ws ih =>
          intro hw
          have h1 : w ≠ i := fun e => hw (e ▸ List.mem_cons_self)
          have h2 : i ∉ ws := fun e => hw (List.mem_cons_of_mem _ e)
          show (wipe (s.set i x) ws).set w none = ((wipe s ws).set w none).set i x
          rw [ih h2, List.set_comm _ _ h1.symm]
      rw [key vs hi, List.set_set]
theorem wipe_wipe {s : L2.St} : ∀ (us vs : List Nat), (∀ u ∈ us, u ∈ vs) → wipe (wipe s us) vs = wipe s vs
  | [], _, _ => rfl
  | u :: us, vs, h => by
    show wipe ((wipe s us).set u none) vs = _
    rw [wipe_set (h u List.mem_cons_self), wipe_wipe us vs fun w hw => h w (List.mem_cons_of_mem _ hw)]
theorem gTs_ok {m : Nat → Addr} {L : Nat} {H : Hp} {Q : L2.St → Hp → Prop} : ∀ (is : List Nat) (ds : List D) (vs : List V) (r : Env) (s : L2.St), is.length = ds.length → DenL K m L H ds vs → EnvR K m L H r s →
    (∀ s1, EnvR K m L H ((is.zip ds).foldl (fun r p => r.set p.1 (some p.2)) r) s1 → (∀ ws : List Nat, (∀ i ∈ is, i ∈ ws) → wipe s1 ws = wipe s ws) → Q s1 H) → gTs is vs s H Q
  | [], [], vs, r, s, _, hv, env, k => ⟨den0 hv, k s env fun _ _ => rfl⟩
  | [], _ :: _, _, _, _, h, _, _, _ => by simp at h
  | _ :: _, [], _, _, _, h, _, _, _ => by simp at h
  | i :: is, d :: ds, vs, r, s, h, hv, env, k => by
    simp only [DenL] at hv
    obtain ⟨v, us, rfl, h1, h2⟩ := hv
    refine ⟨v, us, rfl, gTs_ok is ds us _ _ (by simpa using h) h2 (env.set h1 i) fun s1 e1 w1 => k s1 e1 fun ws hw => ?_⟩
    rw [w1 ws fun j hj => hw j (List.mem_cons_of_mem _ hj), wipe_set (hw i List.mem_cons_self)]
theorem gT_ok {m : Nat → Addr} {L : Nat} {H : Hp} {Q : L2.St → Hp → Prop} {tg : Tg} {d : D} {v : V} {r r1 : Env} {s : L2.St} (e : bindT tg d r = some r1) (hv : Den K m L H d v) (env : EnvR K m L H r s)
    (k : ∀ s1, EnvR K m L H r1 s1 → (∀ ws : List Nat, (∀ i ∈ slotsT tg, i ∈ ws) → wipe s1 ws = wipe s ws) → Q s1 H) : gT K tg v s H Q := by
  unfold bindT at e
  split at e
  · cases e
    exact k _ (env.set hv _) fun ws hw => wipe_set (hw _ (List.mem_cons_self))
  · rename_i is ds
    split at e
    · rename_i hl
      cases e
      obtain ⟨a, vs, rfl, h1, h2⟩ := hv.tup_inv
      exact ⟨a, vs, rfl, h1, by rw [← h2.len]; exact hl.symm, gTs_ok is ds vs r s hl h2 env k⟩
    · cases e
  · cases e

/-! ### what is gone through -/
structure WkD (K : PySem.W.Frag) (its : Its) (m : Nat → Addr) (S : Store) (H : Hp) (J : It) : Prop where
  ex : ∃ G Y, Walk J its.items.length G Y ∧ (∀ m2 S2 H2, Go K m S H m2 S2 H2 → okG its.guard S2 → G H2) ∧
    (∀ i m2 S2 H2 x H3, i < its.items.length → Go K m S H m2 S2 H2 → okG its.guard S2 → Y i H2 x H3 → ∃ d, its.items[i]? = some d ∧ Go K m2 S2 H2 m2 S2 H3 ∧ Den K m2 S2.length H3 d x)
def TRI (K : PySem.W.Frag) (f : Env → Store → Option (Its × Store)) : TI := fun s H R => ∃ m S r its S', Sim K m S H ∧ EnvR K m S.length H r s ∧ f r S = some (its, S') ∧ ∀ J H' m', Go K m S H m' S' H' → WkD K its m' S' H' J → R J H'
theorem walk_list' {a : Addr} {n : Nat} : Walk (Itl K a) n (fun H => ∃ vs : List V, vs.length = n ∧ SqL K H a vs) (fun i H x H' => H' = H ∧ ∀ vs, SqL K H a vs → vs[i]? = some x) :=
  ⟨fun i H hi ⟨vs, e, q⟩ => ⟨vs, vs[i]'(by omega), q, List.getElem?_eq_getElem (by omega)⟩, fun H ⟨vs, e, q⟩ => ⟨vs, q, by omega⟩, fun i H x H' hi _ y => y⟩
theorem walk_enum' {a : Addr} {n : Nat} : Walk (Ite K a) n (fun H => ∃ vs : List V, vs.length = n ∧ SqL K H a vs)
    (fun i H v H' => ∃ T x, v = .ref T ∧ H T = none ∧ H' = upd H T (.tup [.int (i : Nat), x]) ∧ ∀ xs, SqL K H a xs → xs[i]? = some x) :=
  ⟨fun i H hi ⟨vs, e, q⟩ => ⟨vs, vs[i]'(by omega), q, List.getElem?_eq_getElem (by omega)⟩, fun H ⟨vs, e, q⟩ => ⟨vs, q, by omega⟩, fun i H x H' hi _ y => y⟩
theorem wk_tup {m : Nat → Addr} {S : Store} {H : Hp} {a : Addr} {xs : List D} {vs : List V} (h1 : SqT K H a vs) (h2 : DenL K m S.length H xs vs) : WkD K ⟨xs, none⟩ m S H (Itt K a) := by
  refine ⟨fun H => SqT K H a vs, YAt vs, ?_, fun m2 S2 H2 g _ => g.keep.sqT h1, fun i m2 S2 H2 x H3 hi g _ y => ?_⟩
  · show Walk (Itt K a) xs.length _ _
    rw [h2.len]
    exact walk_tup (xs := vs)
  · obtain ⟨rfl, y⟩ := y
    obtain ⟨d, e1, e2⟩ := (g.denL h2).getV y
    exact ⟨d, e1, Go.refl g.sim, e2⟩
theorem wk_frz {m : Nat → Addr} {S : Store} {H : Hp} {a : Addr} {xs : List D} {vs : List V} (h1 : FzL K H a vs) (h2 : DenL K m S.length H xs vs) : WkD K ⟨xs, none⟩ m S H (Itl K a) := by
  refine ⟨_, _, walk_list' (n := xs.length), fun m2 S2 H2 g _ => ⟨vs, h2.len.symm, (g.keep.fz h1).sq⟩, fun i m2 S2 H2 x H3 hi g _ y => ?_⟩
  obtain ⟨rfl, y⟩ := y
  obtain ⟨d, e1, e2⟩ := (g.denL h2).getV (y vs (g.keep.fz h1).sq)
  exact ⟨d, e1, Go.refl g.sim, e2⟩
theorem wk_lst {m : Nat → Addr} {S : Store} {H : Hp} {n : Nat} {xs : List D} (hn : n < S.length) : WkD K ⟨xs, some (n, xs)⟩ m S H (Itl K (m n)) := by
  refine ⟨_, _, walk_list' (n := xs.length), fun m2 S2 H2 g e => ?_, fun i m2 S2 H2 x H3 hi g e y => ?_⟩
  · obtain ⟨vs, h1, h2⟩ := g.sim.cell n xs e
    rw [g.ag n hn] at h1
    exact ⟨vs, h2.len.symm, SqL.of h1⟩
  · obtain ⟨rfl, y⟩ := y
    obtain ⟨vs, h1, h2⟩ := g.sim.cell n xs e
    rw [g.ag n hn] at h1
    obtain ⟨d, e1, e2⟩ := h2.getV (y vs (SqL.of h1))
    exact ⟨d, e1, Go.refl g.sim, e2⟩
theorem enumD_at (xs : List D) (i : Nat) : (enumD xs)[i]? = xs[i]?.map fun x => .tup [.int (i : Nat), x] := by
  unfold enumD
  rw [List.getElem?_zipWith]
  by_cases hi : i < xs.length
  · rw [List.getElem?_range hi, List.getElem?_eq_getElem hi]; rfl
  · rw [List.getElem?_eq_none (by simp; omega), List.getElem?_eq_none (by omega)]; rfl
theorem enumD_len (xs : List D) : (enumD xs).length = xs.length := by unfold enumD; simp
theorem pair_den {m : Nat → Addr} {S : Store} {H : Hp} (sim : Sim K m S H) {T : Addr} {i : Nat} {x : V} {d : D} (hT : H T = none) (h : Den K m S.length H d x) :
    Go K m S H m S (upd H T (.tup [.int (i : Nat), x])) ∧ Den K m S.length (upd H T (.tup [.int (i : Nat), x])) (.tup [.int (i : Nat), d]) (.ref T) :=
  Go.tup sim hT (DenL.cons (den_int _) (DenL.cons h DenL.nil))
theorem wk_enumL {m : Nat → Addr} {S : Store} {H : Hp} {n : Nat} {xs : List D} (hn : n < S.length) : WkD K ⟨enumD xs, some (n, xs)⟩ m S H (Ite K (m n)) := by
  refine ⟨_, _, walk_enum' (n := (enumD xs).length), fun m2 S2 H2 g e => ?_, fun i m2 S2 H2 x H3 hi g e y => ?_⟩
  · obtain ⟨vs, h1, h2⟩ := g.sim.cell n xs e
    rw [g.ag n hn] at h1
    exact ⟨vs, by rw [enumD_len]; exact h2.len.symm, SqL.of h1⟩
  · obtain ⟨T, x', rfl, hT, rfl, y⟩ := y
    obtain ⟨vs, h1, h2⟩ := g.sim.cell n xs e
    rw [g.ag n hn] at h1
    obtain ⟨d, e1, e2⟩ := h2.getV (y vs (SqL.of h1))
    obtain ⟨g2, dn⟩ := pair_den (i := i) g.sim hT e2
    exact ⟨_, by rw [enumD_at, e1]; rfl, g2, dn⟩
theorem wk_enumF {m : Nat → Addr} {S : Store} {H : Hp} {a : Addr} {xs : List D} {vs : List V} (h1 : FzL K H a vs) (h2 : DenL K m S.length H xs vs) : WkD K ⟨enumD xs, none⟩ m S H (Ite K a) := by
  refine ⟨_, _, walk_enum' (n := (enumD xs).length), fun m2 S2 H2 g _ => ⟨vs, by rw [enumD_len]; exact h2.len.symm, (g.keep.fz h1).sq⟩, fun i m2 S2 H2 x H3 hi g _ y => ?_⟩
  obtain ⟨T, x', rfl, hT, rfl, y⟩ := y
  obtain ⟨d, e1, e2⟩ := (g.denL h2).getV (y vs (g.keep.fz h1).sq)
  obtain ⟨g2, dn⟩ := pair_den (i := i) g.sim hT e2
  exact ⟨_, by rw [enumD_at, e1]; rfl, g2, dn⟩
theorem rngD_at (lo : Int) (n i : Nat) (hi : i < n) : (rngD lo n)[i]? = some (.int (lo + (i : Nat))) := by
  unfold rngD
  rw [List.getElem?_map, List.getElem?_range hi]; rfl
theorem rngD_len (lo : Int) (n : Nat) : (rngD lo n).length = n := by unfold rngD; simp
theorem wk_rng {m : Nat → Addr} {S : Store} {H : Hp} {lo : Int} {n : Nat} : WkD K ⟨rngD lo n, none⟩ m S H (L2.Itr lo n) := by
  refine ⟨fun _ => True, YFn fun i => .int (lo + (i : Nat)), ?_, fun m2 S2 H2 g _ => trivial, fun i m2 S2 H2 x H3 hi g _ y => ?_⟩
  · show Walk (L2.Itr lo n) (rngD lo n).length _ _
    rw [rngD_len]
    exact walk_range
  · obtain ⟨rfl, rfl⟩ := y
    exact ⟨_, rngD_at lo n i (by rw [← rngD_len lo n]; exact hi), Go.refl g.sim, den_int _⟩
theorem ti_ex {fa : Env → Store → R} {s : L2.St} {H : Hp} {Q : It → Hp → Prop} (h : TRI K (fun r S => (fa r S).bind fun p => (itSeq p.1 p.2).map fun i => (i, p.2)) s H Q) : iList K (TR K fa) s H Q ∨ iTup K (TR K fa) s H Q := by
  obtain ⟨m, S, ρ, its, S', sim, env, e, k⟩ := h
  obtain ⟨⟨dx, S1⟩, e1, e⟩ := bnd e
  obtain ⟨i, e2, e3⟩ := mp1 e
  cases e3
  cases dx with
  | tup xs =>
    cases e2
    refine .inr ⟨m, S, ρ, _, _, sim, env, e1, fun x H1 m1 g1 hx => ?_⟩
    obtain ⟨a, vs, rfl, h1, h2⟩ := hx.tup_inv
    exact ⟨a, rfl, ⟨vs, h1⟩, k _ _ _ g1 (wk_tup h1 h2)⟩
  | frz xs =>
    cases e2
    refine .inl ⟨m, S, ρ, _, _, sim, env, e1, fun x H1 m1 g1 hx => ?_⟩
    obtain ⟨a, vs, rfl, h1, h2⟩ := hx.frz_inv
    exact ⟨a, rfl, ⟨vs, h1.sq⟩, k _ _ _ g1 (wk_frz h1 h2)⟩
  | ref n =>
    obtain ⟨xs, e3, e4⟩ := mp1 e2
    subst e4
    refine .inl ⟨m, S, ρ, _, _, sim, env, e1, fun x H1 m1 g1 hx => ?_⟩
    obtain ⟨e5, e6⟩ := hx.ref_inv
    obtain ⟨vs, h1, h2⟩ := g1.sim.cell n xs e3
    exact ⟨m1 n, e5, ⟨vs, SqL.of h1⟩, k _ _ _ g1 (wk_lst e6)⟩
  | _ => cases e2
theorem ti_enum {fa : Env → Store → R} {s : L2.St} {H : Hp} {Q : It → Hp → Prop} (h : TRI K (fun r S => (fa r S).bind fun p => (itEnum p.1 p.2).map fun i => (i, p.2)) s H Q) : iEnum K (tCons (TR K fa) tNil) s H Q := by
  obtain ⟨m, S, ρ, its, S', sim, env, e, k⟩ := h
  obtain ⟨⟨dx, S1⟩, e1, e⟩ := bnd e
  obtain ⟨i, e2, e3⟩ := mp1 e
  cases e3
  cases dx with
  | frz xs =>
    cases e2
    refine ⟨m, S, ρ, _, _, sim, env, e1, fun x H1 m1 g1 hx => ?_⟩
    obtain ⟨a, vs, rfl, h1, h2⟩ := hx.frz_inv
    exact ⟨a, vs, rfl, h1.sq, k _ _ _ g1 (wk_enumF h1 h2)⟩
  | ref n =>
    obtain ⟨xs, e3, e4⟩ := mp1 e2
    subst e4
    refine ⟨m, S, ρ, _, _, sim, env, e1, fun x H1 m1 g1 hx => ?_⟩
    obtain ⟨e5, e6⟩ := hx.ref_inv
    obtain ⟨vs, h1, h2⟩ := g1.sim.cell n xs e3
    exact ⟨m1 n, vs, by rw [e5], SqL.of h1, k _ _ _ g1 (wk_enumL e6)⟩
  | _ => cases e2
theorem ti_rng1 {fa : Env → Store → R} {s : L2.St} {H : Hp} {Q : It → Hp → Prop} (h : TRI K (fun r S => (fa r S).bind fun p => match p.1 with
    | .int j => if inR62 j then some (⟨rngD 0 j.toNat, none⟩, p.2) else none
    | _ => none) s H Q) : iRng1 (tCons (TR K fa) tNil) s H Q := by
  obtain ⟨m, S, ρ, its, S', sim, env, e, k⟩ := h
  obtain ⟨⟨dx, S1⟩, e1, e⟩ := bnd e
  dsimp only at e
  split at e
  · rename_i j
    split at e
    · rename_i hj
      cases e
      exact ⟨m, S, ρ, _, _, sim, env, e1, fun x H1 m1 g1 hx => ⟨j, by rw [hx.int_inv], hj.1, hj.2, k _ _ _ g1 wk_rng⟩⟩
    · cases e
  · cases e
theorem ti_rng2 {fa fb : Env → Store → R} {s : L2.St} {H : Hp} {Q : It → Hp → Prop} (h : TRI K (fun r S => (fa r S).bind fun p => (fb r p.2).bind fun q => match p.1, q.1 with
    | .int i, .int j => if inR62 i ∧ inR62 j then some (⟨rngD i (j - i).toNat, none⟩, q.2) else none
    | _, _ => none) s H Q) : iRng2 (tCons (TR K fa) (tCons (TR K fb) tNil)) s H Q := by
  obtain ⟨m, S, ρ, its, S', sim, env, e, k⟩ := h
  obtain ⟨⟨dx, S1⟩, e1, e⟩ := bnd e
  obtain ⟨⟨dy, S2⟩, e2, e⟩ := bnd e
  dsimp only at e
  cases dx with
  | int i => cases dy with
    | int j =>
      dsimp only at e
      split at e
      · rename_i hj
        cases e
        exact ⟨m, S, ρ, _, _, sim, env, e1, fun x H1 m1 g1 hx => ⟨m1, _, ρ, _, _, g1.sim, g1.env env, e2, fun y H2 m2 g2 hy => ⟨i, j, by rw [hx.int_inv, hy.int_inv], ⟨hj.1.1, hj.1.2, hj.2.1, hj.2.2⟩, k _ _ _ (g1.trans g2) wk_rng⟩⟩⟩
      · cases e
    | _ => cases e
  | _ => cases e

/-! ### a loop in general -/
theorem loop_gen {J : It} {n : Nat} {G : Hp → Prop} {Y : Nat → Hp → V → Hp → Prop} (w : Walk J n G Y) {H0 : Hp} {Qd : Hp → Prop} (Pv : Nat → Hp → Prop) (Body : V → Hp → (Hp → Prop) → Prop) (h0 : Pv 0 H0) (hG : ∀ i H, i ≤ n → Pv i H → G H)
    (hs : ∀ i x H H', i < n → Pv i H → Y i H x H' → Body x H' (Pv (i + 1))) (hd : ∀ H, Pv n H → Qd H) :
    ∃ W : Nat → Nat → Hp → Prop, (∃ m, W 0 m H0) ∧ ∀ i m H, W i m H → (J.stop i H ∧ Qd H) ∨ (J.go i H ∧ ∃ Nx : Hp → Prop, (∀ H', Nx H' → ∃ m', m' < m ∧ W (i + 1) m' H') ∧ ∀ x H', J.yld i H x H' → Body x H' Nx) := by
  refine ⟨fun i m H => m = n - i ∧ i ≤ n ∧ Pv i H, ⟨n, by simp, Nat.zero_le _, h0⟩, ?_⟩
  rintro i m H ⟨rfl, hi, p⟩
  have q := hG i H hi p
  by_cases hlt : i < n
  · exact .inr ⟨w.goes i H hlt q, Pv (i + 1), fun H' p' => ⟨n - (i + 1), by omega, rfl, hlt, p'⟩, fun x H' y => hs i x H H' hlt p (w.yields i H x H' hlt q y)⟩
  · have e : i = n := by omega
    subst e
    exact .inl ⟨w.stops H q, hd H p⟩
theorem cl_ok {tg : Tg} {g : Option (Nat × List D)} {turn : Env → Store → Option Store} {r : Env} {l : List D} {S Sf : Store} (h : compLoop tg g turn r l S = some Sf) : okG g S := by
  cases l with
  | nil => unfold compLoop at h; split at h; assumption; cases h
  | cons x xs => unfold compLoop at h; split at h; assumption; cases h
theorem cl_cons {tg : Tg} {g : Option (Nat × List D)} {turn : Env → Store → Option Store} {r : Env} {x : D} {l : List D} {S Sf : Store} (h : compLoop tg g turn r (x :: l) S = some Sf) :
    ∃ r1 S1, bindT tg x r = some r1 ∧ turn r1 S = some S1 ∧ compLoop tg g turn r l S1 = some Sf := by
  unfold compLoop at h
  split at h
  · split at h
    · cases h
    · rename_i r1 e1
      split at h
      · cases h
      · rename_i S1 e2
        exact ⟨r1, S1, e1, e2, h⟩
  · cases h
theorem cl_nil {tg : Tg} {g : Option (Nat × List D)} {turn : Env → Store → Option Store} {r : Env} {S Sf : Store} (h : compLoop tg g turn r [] S = some Sf) : S = Sf := by
  unfold compLoop at h
  split at h
  · exact Option.some.inj h
  · cases h
/-- the new list's item -/
theorem app_good {m : Nat → Addr} {S S' : Store} {H : Hp} {n : Nat} {y : D} {v : V} (sim : Sim K m S H) (hv : Den K m S.length H y v) (e : appD n y S = some S') :
    ∃ acc, H (m n) = some (.lst acc) ∧ acc.length < sizeLine ∧ Go K m S H m S' (upd H (m n) (.lst (acc ++ [v]))) := by
  unfold appD at e
  split at e
  · cases e
  · rename_i xs hn
    split at e
    · rename_i hz
      cases e
      obtain ⟨vs, h1, h2⟩ := sim.cell n xs hn
      exact ⟨vs, h1, by rw [← h2.len]; exact hz, Go.set sim hn (h2.app (DenL.cons hv DenL.nil))⟩
    · cases e
theorem drop_at {l : List D} {i : Nat} {d : D} (h : l[i]? = some d) : l.drop i = d :: l.drop (i + 1) := by
  obtain ⟨hi, e⟩ := List.getElem?_eq_some_iff.mp h
  rw [List.drop_eq_getElem_cons hi, e]
/-- one turn of a comprehension: the test, the new item -/
theorem turn1 {fc : Env → Store → Option (Bool × Store)} {fe : Env → Store → R} {m : Nat → Addr} {S S1 : Store} {H : Hp} {r1 : Env} {s2 : L2.St} {n0 : Nat} (sim : Sim K m S H) (hn0 : n0 < S.length) (env : EnvR K m S.length H r1 s2)
    (e : ((fc r1 S).bind fun q => if q.1 = true then (fe r1 q.2).bind fun u => appD n0 u.1 u.2 else some q.2) = some S1) (Nx : Hp → Prop) (k : ∀ H' m', Go K m S H m' S1 H' → Nx H') :
    TRB K fc s2 H fun b H3 => if b = true then TR K fe s2 H3 fun y H4 => ∃ acc, H4 (m n0) = some (.lst acc) ∧ acc.length < sizeLine ∧ Nx (upd H4 (m n0) (.lst (acc ++ [y]))) else Nx H3 := by
  obtain ⟨⟨b, S2⟩, e1, e⟩ := bnd e
  dsimp only at e
  refine ⟨m, S, r1, b, S2, sim, env, e1, fun H3 m3 g3 => ?_⟩
  split at e
  · rename_i hb
    rw [if_pos hb]
    obtain ⟨⟨y, S3⟩, e2, e⟩ := bnd e
    refine ⟨m3, S2, r1, y, S3, g3.sim, g3.env env, e2, fun v H4 m4 g4 hv => ?_⟩
    obtain ⟨acc, h1, h2, h3⟩ := app_good g4.sim hv e
    have hm : m4 n0 = m n0 := (g4.ag n0 (Nat.lt_of_lt_of_le hn0 g3.len)).trans (g3.ag n0 hn0)
    rw [hm] at h1 h3
    exact ⟨acc, h1, h2, k _ _ ((g3.trans g4).trans h3)⟩
  · rename_i hb
    rw [if_neg hb]
    cases e
    exact k _ _ g3
/-- a clause's loop -/
theorem clause {its : Its} {J : It} {tg : Tg} {turn : Env → Store → Option Store} {r : Env} {s : L2.St} {m : Nat → Addr} {S Sf : Store} {H : Hp} {own : List Nat} {Qd : Hp → Prop} (sim : Sim K m S H) (env : EnvR K m S.length H r s)
    (wk : WkD K its m S H J) (ht : ∀ i ∈ slotsT tg, i ∈ own) (hw : wipe s own = s) (e : compLoop tg its.guard turn r its.items S = some Sf) (Rest : L2.St → Hp → (Hp → Prop) → Prop)
    (hr : ∀ m2 S2 H2 r1 s1 S3 Nx, Go K m S H m2 S2 H2 → EnvR K m2 S2.length H2 r1 s1 → turn r1 S2 = some S3 → (∀ H' m', Go K m2 S2 H2 m' S3 H' → Nx H') → Rest s1 H2 Nx)
    (hd : ∀ H' m', Go K m S H m' Sf H' → Qd H') :
    ∃ W : Nat → Nat → Hp → Prop, (∃ k, W 0 k H) ∧ ∀ i k H, W i k H → (J.stop i H ∧ Qd H) ∨ (J.go i H ∧ ∃ Nx : Hp → Prop, (∀ H', Nx H' → ∃ k', k' < k ∧ W (i + 1) k' H') ∧ ∀ x H', J.yld i H x H' → gT K tg x s H' fun s2 H2 => wipe s2 own = s ∧ Rest s2 H2 Nx) := by
  obtain ⟨G, Y, w, hG, hY⟩ := wk.ex
  refine loop_gen w (fun i H' => ∃ m2 S2, Go K m S H m2 S2 H' ∧ compLoop tg its.guard turn r (its.items.drop i) S2 = some Sf) _ ⟨m, S, Go.refl sim, e⟩ ?_ ?_ ?_
  · rintro i H' hi ⟨m2, S2, g, e'⟩
    exact hG m2 S2 H' g (cl_ok e')
  · rintro i x H1 H2 hi ⟨m2, S2, g, e'⟩ y
    obtain ⟨d, e1, g2, hd'⟩ := hY i m2 S2 H1 x H2 hi g (cl_ok e') y
    rw [drop_at e1] at e'
    obtain ⟨r1, S3, e2, e3, e4⟩ := cl_cons e'
    refine gT_ok e2 hd' ((g.trans g2).env env) fun s1 env1 w1 => ⟨?_, ?_⟩
    · rw [w1 own ht, hw]
    · exact hr m2 S2 H2 r1 s1 S3 _ (g.trans g2) env1 e3 fun H' m' g' => ⟨m', S3, (g.trans g2).trans g', e4⟩
  · rintro H' ⟨m2, S2, g, e'⟩
    rw [List.drop_length] at e'
    have := cl_nil e'
    subst this
    exact hd H' m2 g
theorem tr_comp1 {fi : Env → Store → Option (Its × Store)} {tg : Tg} {fc : Env → Store → Option (Bool × Store)} {fe : Env → Store → R} {own : List Nat} (ht : ∀ i ∈ slotsT tg, i ∈ own) {s : L2.St} {H : Hp} {Q : VK}
    (h : TR K (fun r S => (fi r S).bind fun p =>
      (compLoop tg p.1.guard (fun r1 S1 => (fc r1 S1).bind fun q => if q.1 = true then (fe r1 q.2).bind fun u => appD p.2.length u.1 u.2 else some q.2) (wipeE r own) p.1.items (p.2 ++ [[]])).bind fun S2 => some (.ref p.2.length, S2)) s H Q) :
    tLc (TRI K fi) (gT K tg) (TRB K fc) (TR K fe) own s H Q := by
  obtain ⟨m, S, ρ, d, S', sim, env, e, k⟩ := h
  obtain ⟨⟨its, S1⟩, e1, e⟩ := bnd e
  obtain ⟨Sf, e2, e⟩ := bnd e
  cases e
  refine ⟨m, S, ρ, its, S1, sim, env, e1, fun J H1 m1 g1 wk Da hDa => ?_⟩
  obtain ⟨g2, dn⟩ := Go.lst g1.sim hDa (DenL.nil (K := K) (m := m1) (L := S1.length) (H := H1))
  have env2 := (g2.env (g1.env env)).wipe own
  have hn0 : S1.length < (S1 ++ [([] : List D)]).length := by simp
  have hD : put m1 S1.length Da S1.length = Da := put_same
  have wk2 : WkD K its (put m1 S1.length Da) (S1 ++ [[]]) (upd H1 Da (.lst [])) J := by
    obtain ⟨G, Y, w, hG, hY⟩ := wk.ex
    exact ⟨G, Y, w, fun m2 S2 H2 g => hG m2 S2 H2 (g2.trans g), fun i m2 S2 H2 x H3 hi g => hY i m2 S2 H2 x H3 hi (g2.trans g)⟩
  refine clause g2.sim env2 wk2 ht (wipe_wipe own own fun _ h => h) e2 (fun s2 H2 Nx => TRB K fc s2 H2 fun b H3 => if b = true then TR K fe s2 H3 fun y H4 => ∃ acc, H4 Da = some (.lst acc) ∧ acc.length < sizeLine ∧ Nx (upd H4 Da (.lst (acc ++ [y]))) else Nx H3) ?_ ?_
  · intro m2 S2 H2 r1 s1 S3 Nx g env1 e3 kk
    have hm : m2 S1.length = Da := (g.ag _ hn0).trans hD
    have := turn1 (n0 := S1.length) g.sim (Nat.lt_of_lt_of_le hn0 g.len) env1 e3 Nx kk
    rw [hm] at this
    exact this
  · intro H' m' g
    refine k _ _ _ ((g1.trans g2).trans g) ?_
    simp only [Den]
    exact ⟨by rw [g.ag _ hn0, hD], Nat.lt_of_lt_of_le hn0 g.len⟩
theorem tr_comp2 {fi fi1 : Env → Store → Option (Its × Store)} {tg tg1 : Tg} {fc fc1 : Env → Store → Option (Bool × Store)} {fe : Env → Store → R} {own own1 : List Nat} (ht : ∀ i ∈ slotsT tg, i ∈ own) (ht1 : ∀ i ∈ slotsT tg1, i ∈ own1) {s : L2.St} {H : Hp} {Q : VK}
    (h : TR K (fun r S => (fi r S).bind fun p =>
      (compLoop tg p.1.guard (fun r1 S1 => (fc r1 S1).bind fun q => if q.1 = true then
          (fi1 r1 q.2).bind fun p1 => compLoop tg1 p1.1.guard (fun r2 S2 => (fc1 r2 S2).bind fun q1 => if q1.1 = true then (fe r2 q1.2).bind fun u => appD p.2.length u.1 u.2 else some q1.2) (wipeE r1 own1) p1.1.items p1.2
        else some q.2) (wipeE r own) p.1.items (p.2 ++ [[]])).bind fun S2 => some (.ref p.2.length, S2)) s H Q) :
    tLc2 (TRI K fi) (gT K tg) (TRB K fc) (TRI K fi1) (gT K tg1) (TRB K fc1) (TR K fe) own own1 s H Q := by
  obtain ⟨m, S, ρ, d, S', sim, env, e, k⟩ := h
  obtain ⟨⟨its, S1⟩, e1, e⟩ := bnd e
  obtain ⟨Sf, e2, e⟩ := bnd e
  cases e
  refine ⟨m, S, ρ, its, S1, sim, env, e1, fun J H1 m1 g1 wk Da hDa => ?_⟩
  obtain ⟨g2, dn⟩ := Go.lst g1.sim hDa (DenL.nil (K := K) (m := m1) (L := S1.length) (H := H1))
  have env2 := (g2.env (g1.env env)).wipe own
  have hn0 : S1.length < (S1 ++ [([] : List D)]).length := by simp
  have hD : put m1 S1.length Da S1.length = Da := put_same
  have wk2 : WkD K its (put m1 S1.length Da) (S1 ++ [[]]) (upd H1 Da (.lst [])) J := by
    obtain ⟨G, Y, w, hG, hY⟩ := wk.ex
    exact ⟨G, Y, w, fun m2 S2 H2 g => hG m2 S2 H2 (g2.trans g), fun i m2 S2 H2 x H3 hi g => hY i m2 S2 H2 x H3 hi (g2.trans g)⟩
  refine clause g2.sim env2 wk2 ht (wipe_wipe own own fun _ h => h) e2 (fun s2 H2 Nx => TRB K fc s2 H2 fun b H3 =>
    if b = true then TRI K fi1 s2 H3 fun J1 H4 => ∃ W1 : Nat → Nat → Hp → Prop, (∃ m, W1 0 m H4) ∧ ∀ j k H, W1 j k H →
      (J1.stop j H ∧ Nx H) ∨ (J1.go j H ∧ ∃ Nx1 : Hp → Prop, (∀ H', Nx1 H' → ∃ k', k' < k ∧ W1 (j + 1) k' H') ∧ ∀ x H', J1.yld j H x H' → gT K tg1 x (wipe s2 own1) H' fun s3 H5 => wipe s3 own1 = wipe s2 own1 ∧ TRB K fc1 s3 H5 fun b H6 =>
        if b = true then TR K fe s3 H6 fun y H7 => ∃ acc, H7 Da = some (.lst acc) ∧ acc.length < sizeLine ∧ Nx1 (upd H7 Da (.lst (acc ++ [y]))) else Nx1 H6)
    else Nx H3) ?_ ?_
  · intro m2 S2 H2 r1 s1 S3 Nx g env1 e3 kk
    obtain ⟨⟨b, S4⟩, e4, e3⟩ := bnd e3
    dsimp only at e3
    refine ⟨m2, S2, r1, b, S4, g.sim, env1, e4, fun H3 m3 g3 => ?_⟩
    split at e3
    · rename_i hb
      rw [if_pos hb]
      obtain ⟨⟨its1, S5⟩, e5, e3⟩ := bnd e3
      refine ⟨m3, S4, r1, its1, S5, g3.sim, g3.env env1, e5, fun J1 H4 m4 g4 wk4 => ?_⟩
      refine clause g4.sim ((g4.env (g3.env env1)).wipe own1) wk4 ht1 (wipe_wipe own1 own1 fun _ h => h) e3 (fun s3 H5 Nx1 => TRB K fc1 s3 H5 fun b H6 =>
        if b = true then TR K fe s3 H6 fun y H7 => ∃ acc, H7 Da = some (.lst acc) ∧ acc.length < sizeLine ∧ Nx1 (upd H7 Da (.lst (acc ++ [y]))) else Nx1 H6) ?_ ?_
      · intro m5 S6 H5 r2 s3 S7 Nx1 g5 env5 e6 kk1
        have g' := ((g.trans g3).trans g4).trans g5
        have hm : m5 S1.length = Da := (g'.ag _ hn0).trans hD
        have := turn1 (n0 := S1.length) g5.sim (Nat.lt_of_lt_of_le hn0 g'.len) env5 e6 Nx1 kk1
        rw [hm] at this
        exact this
      · intro H' m' g'
        exact kk _ _ ((g3.trans g4).trans g')
    · rename_i hb
      rw [if_neg hb]
      cases e3
      exact kk _ _ g3
  · intro H' m' g
    refine k _ _ _ ((g1.trans g2).trans g) ?_
    simp only [Den]
    exact ⟨by rw [g.ag _ hn0, hD], Nat.lt_of_lt_of_le hn0 g.len⟩

/-! ### statements -/
def FlP (K : PySem.W.Frag) (m : Nat → Addr) (S : Store) (H : Hp) (De : Ends) : Fl → Prop
  | .nx r S' => ∀ s' H' m', Go K m S H m' S' H' → EnvR K m' S'.length H' r s' → De.nx s' H'
  | .rt d S' => ∀ v H' m', Go K m S H m' S' H' → Den K m' S'.length H' d v → De.rt v H'
  | .bk r S' => ∀ s' H' m', Go K m S H m' S' H' → EnvR K m' S'.length H' r s' → De.bk s' H'
  | .ct r S' => ∀ s' H' m', Go K m S H m' S' H' → EnvR K m' S'.length H' r s' → De.ct s' H'
def TRS (K : PySem.W.Frag) (f : Env → Store → Option Fl) : TS := fun De s H => ∃ m S r fl, Sim K m S H ∧ EnvR K m S.length H r s ∧ f r S = some fl ∧ FlP K m S H De fl
theorem FlP.go {m m1 : Nat → Addr} {S S1 : Store} {H H1 : Hp} {De : Ends} {fl : Fl} (g : Go K m S H m1 S1 H1) (h : FlP K m S H De fl) : FlP K m1 S1 H1 De fl := by
  cases fl with
  | nx r S' => exact fun s' H' m' g' => h s' H' m' (g.trans g')
  | rt r S' => exact fun s' H' m' g' => h s' H' m' (g.trans g')
  | bk r S' => exact fun s' H' m' g' => h s' H' m' (g.trans g')
  | ct r S' => exact fun s' H' m' g' => h s' H' m' (g.trans g')
theorem ts_nil {De : Ends} {s : L2.St} {H : Hp} (h : TRS K (fun r S => some (.nx r S)) De s H) : tNext De s H := by
  obtain ⟨m, S, ρ, fl, sim, env, e, k⟩ := h
  cases e
  exact k _ _ _ (Go.refl sim) env
theorem ts_brk {De : Ends} {s : L2.St} {H : Hp} (h : TRS K (fun r S => some (.bk r S)) De s H) : tBreak De s H := by
  obtain ⟨m, S, ρ, fl, sim, env, e, k⟩ := h
  cases e
  exact k _ _ _ (Go.refl sim) env
theorem ts_cont {De : Ends} {s : L2.St} {H : Hp} (h : TRS K (fun r S => some (.ct r S)) De s H) : tCont De s H := by
  obtain ⟨m, S, ρ, fl, sim, env, e, k⟩ := h
  cases e
  exact k _ _ _ (Go.refl sim) env
theorem ts_seq {f1 f2 : Env → Store → Option Fl} {De : Ends} {s : L2.St} {H : Hp} (h : TRS K (fun r S => match f1 r S with
    | some (.nx r1 S1) => f2 r1 S1
    | x => x) De s H) : tSeq (TRS K f1) (TRS K f2) De s H := by
  obtain ⟨m, S, ρ, fl, sim, env, e, k⟩ := h
  dsimp only at e
  cases e1 : f1 ρ S with
  | none => rw [e1] at e; cases e
  | some fl1 =>
    rw [e1] at e
    refine ⟨m, S, ρ, fl1, sim, env, e1, ?_⟩
    cases fl1 with
    | nx r1 S1 => exact fun s' H' m' g env' => ⟨m', S1, r1, fl, g.sim, env', e, k.go g⟩
    | rt d S1 => cases e; exact k
    | bk d S1 => cases e; exact k
    | ct d S1 => cases e; exact k
theorem ts_ret {fa : Env → Store → R} {De : Ends} {s : L2.St} {H : Hp} (h : TRS K (fun r S => (fa r S).bind fun p => some (.rt p.1 p.2)) De s H) : tRet (TR K fa) De s H := by
  obtain ⟨m, S, ρ, fl, sim, env, e, k⟩ := h
  obtain ⟨⟨d, S1⟩, e1, e⟩ := bnd e
  cases e
  exact ⟨m, S, ρ, d, S1, sim, env, e1, k⟩
theorem ts_retN {De : Ends} {s : L2.St} {H : Hp} (h : TRS K (fun _ S => some (.rt .non S)) De s H) : tRetN De s H := by
  obtain ⟨m, S, ρ, fl, sim, env, e, k⟩ := h
  cases e
  exact k _ _ _ (Go.refl sim) den_non
theorem ts_expr {fa : Env → Store → R} {De : Ends} {s : L2.St} {H : Hp} (h : TRS K (fun r S => (fa r S).bind fun p => some (.nx r p.2)) De s H) : tDrop (TR K fa) De s H := by
  obtain ⟨m, S, ρ, fl, sim, env, e, k⟩ := h
  obtain ⟨⟨d, S1⟩, e1, e⟩ := bnd e
  cases e
  exact ⟨m, S, ρ, d, S1, sim, env, e1, fun v H' m' g hv => k _ _ _ g (g.env env)⟩
theorem ts_if {fc : Env → Store → Option (Bool × Store)} {fa fb : Env → Store → Option Fl} {De : Ends} {s : L2.St} {H : Hp} (h : TRS K (fun r S => (fc r S).bind fun p => if p.1 = true then fa r p.2 else fb r p.2) De s H) : tIfS (TRB K fc) (TRS K fa) (TRS K fb) De s H := by
  obtain ⟨m, S, ρ, fl, sim, env, e, k⟩ := h
  obtain ⟨⟨c, S1⟩, e1, e⟩ := bnd e
  dsimp only at e
  refine ⟨m, S, ρ, c, S1, sim, env, e1, fun H1 m1 g1 => ?_⟩
  split at e
  · rename_i hc
    rw [if_pos hc]
    exact ⟨m1, S1, ρ, fl, g1.sim, g1.env env, e, k.go g1⟩
  · rename_i hc
    rw [if_neg hc]
    exact ⟨m1, S1, ρ, fl, g1.sim, g1.env env, e, k.go g1⟩
theorem ts_set {tg : Tg} {fa : Env → Store → R} {De : Ends} {s : L2.St} {H : Hp} (h : TRS K (fun r S => (fa r S).bind fun p => (bindT tg p.1 r).map fun r1 => .nx r1 p.2) De s H) : tAsg (TR K fa) (gT K tg) De s H := by
  obtain ⟨m, S, ρ, fl, sim, env, e, k⟩ := h
  obtain ⟨⟨d, S1⟩, e1, e⟩ := bnd e
  obtain ⟨r1, e2, e3⟩ := mp1 e
  subst e3
  exact ⟨m, S, ρ, d, S1, sim, env, e1, fun v H' m' g hv => gT_ok e2 hv (g.env env) fun s1 env1 _ => k _ _ _ g env1⟩
theorem ts_seti {fe fo fi : Env → Store → R} {De : Ends} {s : L2.St} {H : Hp} (h : TRS K (fun r S => (fe r S).bind fun p => (fo r p.2).bind fun q => (fi r q.2).bind fun u => match q.1, u.1 with
    | .ref n, .int k => match u.2[n]? with
      | none => none
      | some xs => match ixN xs.length k with
        | none => none
        | some j => some (.nx r (u.2.set n (xs.set j p.1)))
    | _, _ => none) De s H) : tAsg (TR K fe) (gSub (TR K fo) (TR K fi) rSetL) De s H := by
  obtain ⟨m, S, ρ, fl, sim, env, e, k⟩ := h
  obtain ⟨⟨d, S1⟩, e1, e⟩ := bnd e
  obtain ⟨⟨o, S2⟩, e2, e⟩ := bnd e
  obtain ⟨⟨i, S3⟩, e3, e⟩ := bnd e
  dsimp only at e
  refine ⟨m, S, ρ, d, S1, sim, env, e1, fun v H1 m1 g1 hv => ⟨m1, S1, ρ, o, S2, g1.sim, g1.env env, e2, fun w H2 m2 g2 hw => ⟨m2, S2, ρ, i, S3, g2.sim, g2.env (g1.env env), e3, fun u H3 m3 g3 hu => ?_⟩⟩⟩
  have hv3 := (g2.trans g3).den hv
  have hw3 := g3.den hw
  have g := (g1.trans g2).trans g3
  cases o with
  | ref n => cases i with
    | int j =>
      dsimp only at e
      split at e
      · cases e
      · rename_i xs hn
        split at e
        · cases e
        · rename_i l hl
          cases e
          obtain ⟨vs, h1, h2⟩ := g3.sim.cell n xs hn
          have g4 := Go.set g3.sim hn (DenL.set hv3 l h2)
          exact ⟨m3 n, vs, j, l, hw3.ref_inv.1, hu.int_inv, h1, by rw [← h2.len]; exact hl, k _ _ _ (g.trans g4) ((g.trans g4).env env)⟩
    | _ => cases e
  | _ => cases e
theorem fl_ok {tg : Tg} {g : Option (Nat × List D)} {body : Env → Store → Option Fl} {l : List D} {r : Env} {S : Store} {fl : Fl} (h : forLoop tg g body l r S = some fl) : okG g S := by
  cases l with
  | nil => unfold forLoop at h; split at h; assumption; cases h
  | cons x xs => unfold forLoop at h; split at h; assumption; cases h
theorem ts_for {fi : Env → Store → Option (Its × Store)} {tg : Tg} {fb : Env → Store → Option Fl} {De : Ends} {s : L2.St} {H : Hp} (h : TRS K (fun r S => (fi r S).bind fun p => forLoop tg p.1.guard fb p.1.items r p.2) De s H) : tFor (TRI K fi) (gT K tg) (TRS K fb) De s H := by
  obtain ⟨m, S, ρ, fl, sim, env, e, k⟩ := h
  obtain ⟨⟨its, S1⟩, e1, e⟩ := bnd e
  dsimp only at e
  refine ⟨m, S, ρ, its, S1, sim, env, e1, fun J H1 m1 g1 wk => ?_⟩
  obtain ⟨G, Y, w, hG, hY⟩ := wk.ex
  refine for_it w (fun i s' H' => ∃ m2 S2 r2, Go K m1 S1 H1 m2 S2 H' ∧ EnvR K m2 S2.length H' r2 s' ∧ forLoop tg its.guard fb (its.items.drop i) r2 S2 = some fl) ⟨m1, S1, ρ, Go.refl g1.sim, g1.env env, e⟩ ?_ ?_ ?_
  · rintro i s' H' hi ⟨m2, S2, r2, g, env2, e'⟩
    exact hG m2 S2 H' g (fl_ok e')
  · rintro i x s' H2 H3 hi ⟨m2, S2, r2, g, env2, e'⟩ y
    obtain ⟨d, e2, g2, hd'⟩ := hY i m2 S2 H2 x H3 hi g (fl_ok e') y
    have hok := fl_ok e'
    rw [drop_at e2] at e'
    unfold forLoop at e'
    rw [if_pos hok] at e'
    cases e3 : bindT tg d r2 with
    | none => rw [e3] at e'; cases e'
    | some r3 =>
      rw [e3] at e'
      dsimp only at e'
      have g3 := g.trans g2
      refine gT_ok e3 hd' (g2.env env2) fun s1 env1 _ => ?_
      cases e4 : fb r3 S2 with
      | none => rw [e4] at e'; cases e'
      | some fl2 =>
        rw [e4] at e'
        refine ⟨m2, S2, r3, fl2, g2.sim, env1, e4, ?_⟩
        cases fl2 with
        | nx r4 S4 => exact fun s4 H4 m4 g4 env4 => ⟨m4, S4, r4, g3.trans g4, env4, e'⟩
        | ct r4 S4 => exact fun s4 H4 m4 g4 env4 => ⟨m4, S4, r4, g3.trans g4, env4, e'⟩
        | rt d4 S4 => cases e'; exact fun v H4 m4 g4 hv => k _ _ _ ((g1.trans g3).trans g4) hv
        | bk r4 S4 => cases e'; exact fun s4 H4 m4 g4 env4 => k _ _ _ ((g1.trans g3).trans g4) env4
  · rintro s' H' ⟨m2, S2, r2, g, env2, e'⟩
    rw [List.drop_length] at e'
    unfold forLoop at e'
    split at e'
    · cases e'
      exact k _ _ _ (g1.trans g) env2
    · cases e'
theorem ts_whl {n : Nat} {fc : Env → Store → Option (Bool × Store)} {fb : Env → Store → Option Fl} {De : Ends} {s : L2.St} {H : Hp} (h : TRS K (fun r S => whlLoop fc fb n r S) De s H) : tWhile (TRB K fc) (TRS K fb) De s H := by
  obtain ⟨m, S, ρ, fl, sim, env, e, k⟩ := h
  refine ⟨fun n' s' H' => ∃ m2 S2 r2, Go K m S H m2 S2 H' ∧ EnvR K m2 S2.length H' r2 s' ∧ whlLoop fc fb n' r2 S2 = some fl, ⟨n, m, S, ρ, Go.refl sim, env, e⟩, ?_⟩
  rintro n' s' H' ⟨m2, S2, r2, g, env2, e'⟩
  cases n' with
  | zero => cases e'
  | succ n' =>
    unfold whlLoop at e'
    cases e1 : fc r2 S2 with
    | none => rw [e1] at e'; cases e'
    | some p =>
      obtain ⟨c, S3⟩ := p
      rw [e1] at e'
      refine ⟨m2, S2, r2, c, S3, g.sim, env2, e1, fun H3 m3 g3 => ?_⟩
      cases c with
      | false =>
        rw [if_neg Bool.false_ne_true]
        cases e'
        exact k _ _ _ (g.trans g3) (g3.env env2)
      | true =>
        rw [if_pos rfl]
        dsimp only at e'
        refine ⟨fun s4 H4 => ∃ m4 S4 r4, Go K m S H m4 S4 H4 ∧ EnvR K m4 S4.length H4 r4 s4 ∧ whlLoop fc fb n' r4 S4 = some fl, fun s4 H4 h4 => ⟨n', Nat.lt_succ_self _, h4⟩, ?_⟩
        cases e2 : fb r2 S3 with
        | none => rw [e2] at e'; cases e'
        | some fl2 =>
          rw [e2] at e'
          refine ⟨m3, S3, r2, fl2, g3.sim, g3.env env2, e2, ?_⟩
          have g' := g.trans g3
          cases fl2 with
          | nx r4 S4 => exact fun s4 H4 m4 g4 env4 => ⟨m4, S4, r4, g'.trans g4, env4, e'⟩
          | ct r4 S4 => exact fun s4 H4 m4 g4 env4 => ⟨m4, S4, r4, g'.trans g4, env4, e'⟩
          | rt d4 S4 => cases e'; exact fun v H4 m4 g4 hv => k _ _ _ (g'.trans g4) hv
          | bk r4 S4 => cases e'; exact fun s4 H4 m4 g4 env4 => k _ _ _ (g'.trans g4) env4
theorem ts_par2 {i j : Nat} {fl : Env → Store → RL} {De : Ends} {s : L2.St} {H : Hp} (h : TRS K (fun r S => (fl r S).bind fun p => if [i, j].length = p.1.length then some (.nx (([i, j].zip p.1).foldl (fun r p => r.set p.1 (some p.2)) r) p.2) else none) De s H) : tPar i j (TRL K fl) De s H := by
  obtain ⟨m, S, ρ, f', sim, env, e, k⟩ := h
  obtain ⟨⟨ds, S1⟩, e1, e⟩ := bnd e
  dsimp only at e
  split at e
  · rename_i hl
    cases e
    match ds, hl, k with
    | [a, b], _, k =>
      refine ⟨m, S, ρ, [a, b], _, sim, env, e1, fun vs H' m' g hv => ?_⟩
      simp only [DenL] at hv
      obtain ⟨v, r, rfl, h1, w, r', rfl, h2, rfl⟩ := hv
      exact ⟨v, w, rfl, k _ _ _ g (((g.env env).set h1 i).set h2 j)⟩
  · cases e
theorem ts_par3 {i j l : Nat} {fl : Env → Store → RL} {De : Ends} {s : L2.St} {H : Hp} (h : TRS K (fun r S => (fl r S).bind fun p => if [i, j, l].length = p.1.length then some (.nx (([i, j, l].zip p.1).foldl (fun r p => r.set p.1 (some p.2)) r) p.2) else none) De s H) : tPar3 i j l (TRL K fl) De s H := by
  obtain ⟨m, S, ρ, f', sim, env, e, k⟩ := h
  obtain ⟨⟨ds, S1⟩, e1, e⟩ := bnd e
  dsimp only at e
  split at e
  · rename_i hl
    cases e
    match ds, hl, k with
    | [a, b, c], _, k =>
      refine ⟨m, S, ρ, [a, b, c], _, sim, env, e1, fun vs H' m' g hv => ?_⟩
      simp only [DenL] at hv
      obtain ⟨v, r, rfl, h1, w, r', rfl, h2, u, r2, rfl, h3, rfl⟩ := hv
      exact ⟨v, w, u, rfl, k _ _ _ g ((((g.env env).set h1 i).set h2 j).set h3 l)⟩
  · cases e
theorem ts_aug (o : Op2) {i : Nat} {fa : Env → Store → R} {De : Ends} {s : L2.St} {H : Hp} {gI : Int → Int → Int} (ho : o = .add ∧ gI = (fun a b => a + b) ∨ o = .sub ∧ gI = fun a b => a - b) (h : TRS K (fun r S => match r[i]? with
    | some (some d) => (fa r S).bind fun p => match d, p.1 with
      | .int a, .int b => match o with
        | .add => some (.nx (r.set i (some (.int (a + b)))) p.2)
        | .sub => some (.nx (r.set i (some (.int (a - b)))) p.2)
        | _ => none
      | _, _ => none
    | _ => none) De s H) : tAug i (TR K fa) (ipI gI) De s H := by
  obtain ⟨m, S, ρ, f', sim, env, e, k⟩ := h
  dsimp only at e
  split at e
  · rename_i d hd
    obtain ⟨⟨dx, S1⟩, e1, e⟩ := bnd e
    dsimp only at e
    obtain ⟨x, h1, h2⟩ := env.at_ i d hd
    refine ⟨x, h1, m, S, ρ, dx, S1, sim, env, e1, fun y H1 m1 g1 hy => ?_⟩
    cases d with
    | int a => cases dx with
      | int b =>
        refine ⟨a, b, (g1.den h2).int_inv, hy.int_inv, ?_⟩
        rcases ho with ⟨rfl, rfl⟩ | ⟨rfl, rfl⟩
        · cases e
          exact k _ _ _ g1 ((g1.env env).set (den_int _) i)
        · cases e
          exact k _ _ _ g1 ((g1.env env).set (den_int _) i)
      | _ => cases e
    | _ => cases e
  · cases e
end
end Ev

set_option Elab.async false
set_option linter.all false
set_option maxRecDepth 100000
set_option maxHeartbeats 4000000
namespace Ev
open PySem PySem.Spec PySem.W PyProof.Rows L2

/-! ### sorted(xs, key=own def) -/
def keysR (sp : Sp) : List V → List V → Hp → (List V → Hp → Prop) → Prop
  | [], done, H, R => R done H
  | x :: xs, done, H, R => sp [x] H (fun k H1 => keysR sp xs (done ++ [k]) H1 R) E0
def DpS (K : PySem.W.Frag) (H : Hp) : List V → List PyData → Prop
  | [], ds => ds = []
  | v :: vs, ds => ∃ d r, ds = d :: r ∧ Dp K H v d ∧ DpS K H vs r
def rSortK (K : PySem.W.Frag) (f : Addr) (sp : Sp) : List V → List V → Hp → VK → Prop := fun vs zs H Q => ∃ a xs, vs = [V.ref a] ∧ zs = [V.ref f] ∧ SqL K H a xs ∧
  keysR sp xs [] H fun ks H1 => ∃ kds, DpS K H1 ks kds ∧ AllAlike kds ∧ Sortable kds ∧ (∀ d, d ∈ kds → d.depth ≤ 20) ∧ ∀ p, H1 p = none → Q (.ref p) (upd H1 p (.lst (ordK xs kds)))

theorem dpS_len {K : PySem.W.Frag} {H : Hp} : ∀ {vs : List V} {ds : List PyData}, DpS K H vs ds → vs.length = ds.length
  | [], ds, h => by simp only [DpS] at h; subst h; rfl
  | v :: vs, ds, h => by
    simp only [DpS] at h
    obtain ⟨d, r, rfl, _, h2⟩ := h
    simp [dpS_len h2]
theorem dpS_reads {X : Cx} {pins : List (Addr × Obj)} {σ : L2.St} {H : Hp} {s : Shared} (I : Inv X pins σ H s) : ∀ {vs : List V} {us : List Value} {ds : List PyData}, DpS X.K H vs ds → Vals vs us → EachIs (fun v d => ∃ as, Reads s.heap v d as) us ds
  | [], us, ds, h, r => by
    simp only [DpS] at h
    subst h
    cases r
    exact .nil
  | v :: vs, us, ds, h, r => by
    simp only [DpS] at h
    obtain ⟨d, rs, rfl, h1, h2⟩ := h
    cases r with
    | cons r1 r2 => exact .cons (Dp.reads I d _ _ h1 r1) (dpS_reads I h2 r2)
theorem each_zip {xs : List V} {vs : List Value} : ∀ {kds : List PyData}, Vals xs vs → xs.length = kds.length → EachIs (fun (v : Value) (p : V × PyData) => RelV p.1 v) vs (xs.zip kds) := by
  induction xs generalizing vs with
  | nil => intro kds r hl; cases r; exact .nil
  | cons x xs ih =>
    intro kds r hl
    cases r with
    | cons r1 r2 => cases kds with
      | nil => cases hl
      | cons k kds => exact .cons r1 (ih r2 (by simpa using hl))
theorem vals_each {ps : List (V × PyData)} : ∀ {vs : List Value}, EachIs (fun (v : Value) (p : V × PyData) => RelV p.1 v) vs ps → Vals (ps.map (·.1)) vs := by
  induction ps with
  | nil => intro vs h; cases h; exact .nil
  | cons p ps ih => intro vs h; cases h with
    | cons h1 h2 => exact .cons h1 (ih h2)
theorem vals_snoc {xs : List V} {vs : List Value} {x : V} {v : Value} (h : Vals xs vs) (r : RelV x v) : Vals (xs ++ [x]) (vs ++ [v]) := h.append (.cons r .nil)

section
variable {X : Cx} {k : Nat} {f : Addr} {fd : FuncData} {ps : List Str} {sp : Sp}

/-- what stays true of the list that is sorted and of the store of its keys -/
structure KSt (X : Cx) (pins : List (Addr × Obj)) (σ : L2.St) (a kS : Addr) (e1 : Nat) (kA : Array Value) (H : Hp) (s : Shared) : Prop where
  inv : Inv X pins σ H s
  fa : FpOk X pins H a
  fk : FpOk X pins H kS
  ne : kS ≠ a
  oa : s.heap.get? a = some (seqObj "list" #[] e1)
  ok : ∃ e, s.heap.get? kS = some (seqObj "list" kA e)
theorem seq_nocell {t : String} {ys : Array Value} {n : Nat} : ∀ v, (seqObj t ys n).data ≠ .cell v := fun v h => by cases h
theorem fpMv {pins : List (Addr × Obj)} {H H' : Hp} {b : Addr} (h : FpOk X pins H b) (n : H' b = none) : FpOk X pins H' b := ⟨n, h.2⟩

/-- one key more -/
theorem kst_call {pins : List (Addr × Obj)} {σ : L2.St} {a kS : Addr} {e1 : Nat} {kA : Array Value} {H : Hp} {s : Shared} {x : V} {v : Value} {R : VK} {A : Around}
    (F : FnG X.prog X.w X.K X.mg X.base CX0 k f fd ps sp) (hA : Room k A) (hg : A.guards = some []) (hfr : A.frames = some X.stack) (hb : L2.Binds X.K fd ps [])
    (T : KSt X pins σ a kS e1 kA H s) (r : RelV x v) (h : sp [x] H R E0) :
    wpAny (model X.prog X.w) A (call (.ref f) [v]) (fun u s' => ∃ y H', KSt X pins σ a kS e1 kA H' s' ∧ RelV y u ∧ R y H') (fun _ _ => False) s := by
  obtain ⟨ek, hk⟩ := T.ok
  have I2 := T.inv.pinned (fp := [a, kS]) (fun b hb => by
    simp only [List.mem_cons, List.not_mem_nil, or_false] at hb
    rcases hb with rfl | rfl
    · exact T.fa
    · exact T.fk) (fun b hb => by
    simp only [List.mem_cons, List.not_mem_nil, or_false] at hb
    rcases hb with rfl | rfl
    · exact ⟨_, T.oa, seq_nocell⟩
    · exact ⟨_, hk, seq_nocell⟩)
  have hl : ([v] ++ ([] : List Value)).length = ps.length := (F.len _ _ _ _ h)
  have hb' := hb s [v] T.inv.kIn hl
  rw [List.append_nil] at hb'
  have E1 := T.inv.env0
  have E2 : Env0 X.prog X.w X.K X.mg X.base A X.stack s H := ⟨hfr, E1.mod, E1.bs, E1.bsz, E1.funs, E1.frf, E1.hok, E1.bare⟩
  refine wpAny_call (codeAny_mono (F.run A X.stack s H ⟨[v], []⟩ [v] [x] R E0 hA hg E2 hb' (.cons r .nil) h) fun q s' hq => ?_)
  cases q with
  | error e => exact hq.elim
  | ok fl => cases fl with
    | ret u =>
      obtain ⟨y, H', I3, r3, q3⟩ := I2.after (σ := σ) hq
      have pa := I3.pin (a, seqObj "list" #[] e1) (List.mem_append_right _ (List.mem_append_right _ (mem_pinsAt (by simp) T.oa)))
      have pk := I3.pin (kS, seqObj "list" kA ek) (List.mem_append_right _ (List.mem_append_right _ (mem_pinsAt (by simp) hk)))
      exact ⟨y, H', ⟨I3.unpinned, fpMv T.fa pa.2.1, fpMv T.fk pk.2.1, T.ne, pa.1, ek, pk.1⟩, r3, q3⟩
    | next => exact hq.elim
    | brk => exact hq.elim
    | cont => exact hq.elim
theorem kst_push {pins : List (Addr × Obj)} {σ : L2.St} {a kS : Addr} {e1 : Nat} {kA : Array Value} {H : Hp} {s : Shared} {u : Value} {A : Around} {Q : Unit → Shared → Prop} {E : Value → Shared → Prop}
    (T : KSt X pins σ a kS e1 kA H s) (hz : kA.size < sizeLine) (h : ∀ s', KSt X pins σ a kS e1 (kA.push u) H s' → Q () s') :
    wpAny (model X.prog X.w) A (Builtin.List.listUpdate (.ref kS) (·.push u)) Q E s := by
  obtain ⟨ek, hk⟩ := T.ok
  have s1 := Heap.SameBut.update s.heap kS (Obj.mapSeq (·.push u))
  refine listUpdate_at hk rfl ?_ (Nat.le_of_lt hz) (by rw [Array.size_push]; exact Nat.succ_le_succ (Nat.le_of_lt hz))
  refine h _ ⟨T.inv.turned (t' := s.toks) (it := kS) (fun b o hb e => (s1.2 b hb).trans e) T.fk.1 T.fk.2.1 T.fk.2.2.2.1 T.fk.2.2.2.2.1 T.fk.2.2.2.2.2, T.fa, T.fk, T.ne, (s1.2 a T.ne.symm).trans T.oa, _, get?_update_seq hk (·.push u)⟩
/-- the sort itself -/
theorem kst_end {pins : List (Addr × Obj)} {σ : L2.St} {a kS : Addr} {e1 : Nat} {kA : Array Value} {H : Hp} {s : Shared} {A : Around} {vs : List Value} {xs ks : List V} {kds : List PyData} {P : PySem.Fin → Shared → Prop} {E : Value → Shared → Prop}
    (T : KSt X pins σ a kS e1 kA H s) (hK : Vals ks kA.toList) (hD : DpS X.K H ks kds) (hal : AllAlike kds) (hsk : Sortable kds) (hd : ∀ d, d ∈ kds → d.depth ≤ 20) (hu : A.units + 40 < cLine)
    (hx : Vals xs vs) (hlen : xs.length = kds.length) (hZ : vs.length ≤ sizeLine)
    (h : ∀ s', Inv X pins σ (upd H a (.lst (ordK xs kds))) s' → P (.done (.ret .none)) s') :
    wpAny (model X.prog X.w) A (ksk_end a false vs.toArray e1 (.ref kS) kA) P E s := by
  obtain ⟨ek, hk⟩ := T.ok
  have he := dpS_reads T.inv hD hK
  have hsz : kA.size = vs.length := by
    have z := he.length
    rw [Array.length_toList] at z
    have := hx.length
    omega
  have at1 : (fun b => if b = kS then some (HO.lst []) else none : Hp) kS = some (.lst []) := if_pos rfl
  have off : ∀ b, b ≠ kS → (fun b => if b = kS then some (HO.lst []) else none : Hp) b = none := fun b z => if_neg z
  generalize (fun b => if b = kS then some (HO.lst []) else none : Hp) = Z at at1 off
  have hN : (hidT s.heap Z).get? kS = none := by
    cases q : (hidT s.heap Z).get? kS with
    | none => rfl
    | some o =>
      have := (of_hidT q).2
      rw [at1] at this
      cases this
  refine keyH_end (κ := dataKind s.heap kds) (h₁ := hidT s.heap Z) (fun b o hb q => (of_hidT q).1) hN hk T.oa T.ne (SortsAt.data (s := s) he hal hsk fun d m => by have := hd d m; omega) hsz hZ fun h3 tk3 c k3 n3 => h _ ?_
  have ko : KeyedOut false kds vs (sortVals (dataKind s.heap kds) false kA.toList vs) := ⟨s.heap, kA.toList, hal, rfl, he⟩
  have km : kds = (xs.zip kds).map (·.2) := by
    rw [List.map_snd_zip]
    omega
  have eo := keyedOut_each (R := fun (v : Value) (p : V × PyData) => RelV p.1 v) (bs := xs.zip kds) (·.2) (by rw [← km]; exact ko) (each_zip hx hlen)
  have vo : Vals (ordK xs kds) (sortVals (dataKind s.heap kds) false kA.toList vs) := vals_each eo
  have ol : (ordK xs kds).length ≤ sizeLine := by
    show (((xs.zip kds).mergeSort (dataLe false (·.2))).map (·.1)).length ≤ _
    rw [List.length_map, List.length_mergeSort, List.length_zip]
    have := hx.length
    omega
  have stay : ∀ b o, b ≠ a → b ≠ kS → s.heap.get? b = some o → h3.get? b = some o := fun b o b1 b2 q => k3 b o b1 (hidT_get q (off b b2))
  have ka : H a = none := T.fa.1
  have kk : H kS = none := T.fk.1
  have out : ∀ b, b ∉ [a, kS] → b ≠ a ∧ b ≠ kS := fun b hb => by
    simp only [List.mem_cons, List.not_mem_nil, or_false, not_or] at hb
    exact hb
  have na : ∀ b o, H b = some o → b ≠ a := fun b o q z => by rw [z, ka] at q; cases q
  have nk : ∀ b o, H b = some o → b ≠ kS := fun b o q z => by rw [z, kk] at q; cases q
  refine T.inv.step (g' := s.gens) (d' := s.drawn) (ch := [a, kS]) (fun b hb => ?_) (fun b o _ _ hb q _ => stay b o (out b hb).1 (out b hb).2 q) (fun b o _ _ hb q _ => ⟨o.slots, stay b o (out b hb).1 (out b hb).2 q⟩)
    (fun b o hb _ q => by rw [upd_ne (out b hb).1]; exact q) (fun b o hb q => ⟨o, stay b o (out b hb).1 (out b hb).2 q⟩) (fun b ys q => by rw [upd_ne (na b _ q)]; exact q) (fun b o u q => by rw [upd_ne (na b _ q)]; exact q)
    (fun b pa q => ⟨#[], by rw [upd_ne (na b _ q), q]; simp⟩) (fun m hm => ?_) (fun b u q => ?_) T.inv.bare
  · simp only [List.mem_cons, List.not_mem_nil, or_false] at hb
    rcases hb with rfl | rfl
    · exact ⟨T.fa.2.2.2.1, T.fa.2.1, T.fa.2.2.2.2.1, T.fa.2.2.2.2.2⟩
    · exact ⟨T.fk.2.2.2.1, T.fk.2.1, T.fk.2.2.2.2.1, T.fk.2.2.2.2.2⟩
  · obtain ⟨o, es, ep, ho, r⟩ := hm
    exact ⟨o, es, ep, stay _ o T.fa.2.1.symm T.fk.2.1.symm ho, r⟩
  · by_cases hb : b = a
    · subst hb
      rw [upd_same] at q
      cases q
      exact ⟨ol, _, c, vo, n3⟩
    · rw [upd_ne hb] at q
      refine (T.inv.hok b u q).stay (fun d v hc z => stay d v ?_ ?_ z) (fun d z => by rw [upd_ne (na d _ z)]; exact z) fun d ys z => by rw [upd_ne (na d _ z)]; exact z
      · rcases hc with rfl | z2
        · exact hb
        · exact na _ _ z2
      · rcases hc with rfl | z2
        · exact nk _ _ q
        · exact nk _ _ z2
/-- the keys, then the sort -/
theorem kst_rest {pins : List (Addr × Obj)} {σ : L2.St} {a kS : Addr} {e1 : Nat} {H : Hp} {s : Shared} {A : Around} {vs : List Value} {xs : List V} {P : PySem.Fin → Shared → Prop} {E : Value → Shared → Prop} {W : V → Hp → Prop}
    (F : FnG X.prog X.w X.K X.mg X.base CX0 k f fd ps sp) (hA : Room k A) (hg : A.guards = some []) (hfr : A.frames = some X.stack) (hb : L2.Binds X.K fd ps []) (hu : A.units + 40 < cLine)
    (T : KSt X pins σ a kS e1 #[] H s) (hx : Vals xs vs) (hZ : vs.length ≤ sizeLine)
    (h : keysR sp xs [] H fun ks H1 => ∃ kds, DpS X.K H1 ks kds ∧ AllAlike kds ∧ Sortable kds ∧ (∀ d, d ∈ kds → d.depth ≤ 20) ∧ ∀ p, H1 p = none → W (.ref p) (upd H1 p (.lst (ordK xs kds))))
    (fin : ∀ s', EP X pins σ W (.ref a) s' → P (.done (.ret .none)) s') : wpAny (model X.prog X.w) A (ksk_rest a (.ref f) false vs.toArray e1 (.ref kS)) P E s := by
  unfold ksk_rest
  refine wpAny_bind (wpAny_rule ?_)
  first
    | rw [List.forIn_toArray]
    | (rw [← Array.forIn_toList]; simp only [List.toList_toArray])
    | rw [← Array.forIn_toList]
  have hl := hx.length
  refine wpAny_bind (ksk_fold (fun i s' => ∃ kA H', KSt X pins σ a kS e1 kA H' s' ∧ ∃ done, Vals done kA.toList ∧ done.length = i ∧ keysR sp (xs.drop i) done H' fun ks H1 => ∃ kds, DpS X.K H1 ks kds ∧ AllAlike kds ∧ Sortable kds ∧ (∀ d, d ∈ kds → d.depth ≤ 20) ∧ ∀ p, H1 p = none → W (.ref p) (upd H1 p (.lst (ordK xs kds)))) vs 0 s
    ⟨#[], H, T, [], .nil, rfl, h⟩ ?step ?done)
  case step =>
    rintro j v s' hv ⟨kA, H', T', done, hK, hd, hr⟩
    simp only [Nat.zero_add] at hr hd ⊢
    have hj : j < vs.length := (List.getElem?_eq_some_iff.mp hv).1
    have hjx : j < xs.length := by omega
    have ex : xs.drop j = xs[j] :: xs.drop (j + 1) := List.drop_eq_getElem_cons hjx
    rw [ex] at hr
    have rv : RelV xs[j] v := by
      obtain ⟨v', h1, h2⟩ := hx.get (i := j) (List.getElem?_eq_getElem hjx)
      rw [hv] at h1
      cases h1
      exact h2
    have hz : kA.size < sizeLine := by
      have z := hK.length
      rw [hd, Array.length_toList] at z
      omega
    refine wpAny_bind (wpAny_attempt (wpAny_mono (kst_call F hA hg hfr hb T' rv hr) (fun u s'' q => ?_) fun _ _ q => q.elim))
    obtain ⟨y, H2, T2, ry, hq⟩ := q
    try dsimp only
    refine wpAny_bind (kst_push T2 hz fun s3 T3 => wpAny_pure ⟨rfl, kA.push u, H2, T3, done ++ [y], ?_, by simp [hd], hq⟩)
    rw [Array.toList_push]
    exact vals_snoc hK ry
  case done =>
    rintro s' ⟨kA, H', T', done, hK, hd, hr⟩
    rw [Nat.zero_add, List.drop_eq_nil_of_le (by omega)] at hr
    obtain ⟨kds, h1, h2, h3, h4, h5⟩ := hr
    obtain ⟨ek, hk⟩ := T'.ok
    refine wpAny_bind (listItems_at hk rfl ?_)
    refine kst_end T' hK h1 h2 h3 h4 hu hx (by rw [← dpS_len h1]; omega) hZ fun s2 I2 => fin s2 ⟨.ref a, _, I2, rfl, h5 a T'.fa.1⟩
theorem cr_sortK (F : FnG X.prog X.w X.K X.mg X.base CX0 k f fd ps sp) (hA : Room (k + 2) X.A) (hg : X.A.guards = some []) (hb : L2.Binds X.K fd ps []) :
    CallRK X (.builtin "sorted") [Str.ofString "key"] (rSortK X.K f sp) := by
  intro pins s σ H vs zs us ws Q I r rz h
  obtain ⟨l, xs, rfl, rfl, hs, q⟩ := h
  obtain rfl := Vals.ref1 r
  obtain ⟨w1, rfl, e1⟩ := vals1 rz
  obtain rfl : w1 = Value.ref f := e1
  obtain ⟨its, rv, hl, hz⟩ := I.list hs
  have hZ : its.length ≤ sizeLine := by
    have := rv.length
    omega
  refine sorted_of_sort hl.isList hZ (ksk_s1 _ _) (fun _ => ksk_l1 _ _) fun E' => ?_
  show wpAny _ _ (Builtin.«list.sort» ⟨[.ref (s.heap.objs.size + 1)], [(Str.ofString "key", .ref f)]⟩) _ _ _
  rw [ksk_t1]
  have ho := copyHeap_at s.heap its
  generalize hc : copyHeap s.heap its = hp at ho
  have old : ∀ b o, s.heap.get? b = some o → hp.get? b = some o := fun b o e => by rw [← hc]; exact copyHeap_old e
  obtain ⟨ee, ho1⟩ : ∃ ee, (hp.update (s.heap.objs.size + 1) (Obj.mapSeq fun _ => (#[] : Array Value))).get? (s.heap.objs.size + 1) = some (seqObj "list" #[] ee) := ⟨_, get?_update_seq ho fun _ => #[]⟩
  have hk : ((hp.update (s.heap.objs.size + 1) (Obj.mapSeq fun _ => (#[] : Array Value))).push (seqObj "tuple" its.toArray 0)).objs.size = hp.objs.size + 1 := by rw [size_push', Heap.size_update]
  have hbig : s.heap.objs.size + 1 < hp.objs.size := Heap.lt_size ho
  unfold ksk_tree
  refine wpAny_bind (listItems_at ho rfl ?_)
  refine wpAny_bind (listUpdate_at ho rfl ?_ (by rw [List.size_toArray]; exact hZ) (Nat.zero_le _))
  refine wpAny_bind (seqEpoch_at ho1 rfl ?_)
  refine wpAny_bind (wpAny_newTuple ?_ (by show its.length ≤ _; exact hZ))
  refine wpAny_bind (wpAny_newList ?_ (Nat.zero_le _))
  refine wpAny_holding ?_
  have keep : ∀ b o, s.heap.get? b = some o → (((hp.update (s.heap.objs.size + 1) (Obj.mapSeq fun _ => (#[] : Array Value))).push (seqObj "tuple" its.toArray 0)).push (seqObj "list" #[] 0)).get? b = some o := fun b o e => by
    refine Heap.get?_push_of_some _ (Heap.get?_push_of_some _ ?_)
    rw [Heap.get?_update_ne _ _ _ _ (Nat.ne_of_lt (Nat.lt_succ_of_lt (Heap.lt_size e)))]
    exact old b o e
  have hle : s.heap.objs.size ≤ s.heap.objs.size + 1 := Nat.le_succ _
  refine kst_rest (pins := pins) (σ := σ) (H := H) (W := Q) (xs := xs) (s := { s with heap := ((hp.update (s.heap.objs.size + 1) (Obj.mapSeq fun _ => (#[] : Array Value))).push (seqObj "tuple" its.toArray 0)).push (seqObj "list" #[] 0) })
    F hA.in1.in1 hg I.ok.frames hb (by have := hA.un; show X.A.units + 1 + 1 + 40 < _; omega) ⟨I.kept keep, I.fpOk hle (I.hok.fresh hle), ?_, ?_, ?_, ?_⟩ rv hZ q fun s' h' => ⟨rfl, h'⟩
  · rw [hk]
    have : s.heap.objs.size ≤ hp.objs.size + 1 := by omega
    exact I.fpOk this (I.hok.fresh this)
  · rw [hk]
    exact Nat.ne_of_gt (Nat.succ_lt_succ (Nat.lt_of_succ_lt hbig))
  · exact Heap.get?_push_of_some _ (Heap.get?_push_of_some _ ho1)
  · exact ⟨0, Heap.get?_push_size _ rfl⟩
end
end Ev

set_option Elab.async false
set_option linter.all false
set_option maxRecDepth 100000
set_option maxHeartbeats 1000000
namespace Ev
open PySem PySem.Spec PyProof.Rows L2

/-! ### from the text to the terms -/
structure CC where
  sc : Scope
  N : List Str
  W : List Str
  F : List (Str × Nat × Nat)
  B : List Str
  KW : List (Str × Nat × List Str × List Nat)

def bad (x : Str) : Bool := x == ("__debug__" : Str) || x == ("__classdict__" : Str) || x == ("__name__" : Str)
def visB (o : Option NameKind) : Bool := match o with
  | some .local => true
  | some .cell => true
  | some .free => true
  | _ => false
def slotOf (N : List Str) (x : Str) : Option Nat := N.findIdx? fun y => decide (y = x)
def lkV (c : CC) (x : Str) : Option Nat := if visB (c.sc.names.lookup x) && !bad x then slotOf c.N x else none
def lkW (c : CC) (x : Str) : Option Nat := if decide (x ∈ c.W) then slotOf c.N x else none
def isGl (c : CC) (x : Str) : Bool := decide (c.sc.names.lookup x = some .globalImplicit) && !bad x
def isBi (c : CC) (x : Str) : Bool := isGl c x && decide (x ∈ c.B)
def cOp : Operator → Option Op2
  | .Add => some .add | .Sub => some .sub | .Mult => some .mul | .FloorDiv => some .fdiv | .Mod => some .mod | .LShift => some .shl | .RShift => some .shr | .BitAnd => some .band | .BitOr => some .bor | .BitXor => some .bxor | .Pow => some .pow | _ => none
def cCm : CmpOp → Option Cm
  | .Lt => some .lt | .LtE => some .le | .Gt => some .gt | .GtE => some .ge | .Eq => some .eq | .NotEq => some .ne | .Is => some .isn | .IsNot => some .notn | .In => some .inn | .NotIn => some .notin
def isStar : Expr → Bool
  | .Starred _ _ => true
  | _ => false
def isSli : Expr → Bool
  | .Slice _ _ _ _ => true
  | _ => false
def isSetD : Expr → Bool
  | .Set _ _ _ => true
  | _ => false
def isCompr : Expr → Bool
  | .ListComp _ _ _ _ => true
  | .SetComp _ _ _ _ => true
  | .DictComp _ _ _ _ _ => true
  | _ => false
def isTupD : Expr → Bool
  | .Tuple _ _ _ => true
  | _ => false
def isTupL : Expr → Bool
  | .Tuple _ _ _ => true
  | .List _ _ => true
  | _ => false
def plainT : Expr → Bool
  | .UnaryOp .Not _ _ => false
  | .BoolOp _ _ _ => false
  | .IfExp _ _ _ _ => false
  | .Compare _ _ _ _ => false
  | _ => true
def okBase : Expr → Bool
  | .Call (.Name _ _) [] [] _ => false
  | _ => true
def ownOf (N : List Str) (scope : Scope) : List (Str × Nat) := scope.names.filterMap fun y => match y.2 with
  | .local => (slotOf N y.1).map fun i => (y.1, i)
  | .cell => (slotOf N y.1).map fun i => (y.1, i)
  | _ => none
def wOf (scope : Scope) : List Str := scope.names.filterMap fun y => match scope.names.lookup y.1 with
  | some .local => some y.1
  | some .cell => some y.1
  | _ => none
def inBlk (c : CC) (scope : Scope) : CC := { c with sc := relS scope c.sc, W := wOf scope }
def kwNames : List Keyword → Option (List Str)
  | [] => some []
  | ⟨some x, _, _⟩ :: r => (kwNames r).map (x :: ·)
  | _ => none
def cTgs (c : CC) : List Expr → Option (List Nat)
  | [] => some []
  | .Name x _ :: es => match lkW c x, cTgs c es with
    | some i, some is => some (i :: is)
    | _, _ => none
  | _ :: _ => none
def cTg (c : CC) : Expr → Option Tg
  | .Name x _ => (lkW c x).map .nm
  | .Tuple es _ _ => (cTgs c es).map .tp
  | _ => none
def biOf (x : Str) : Option Bi :=
  if x = ("len" : Str) then some .len else if x = ("abs" : Str) then some .abs else if x = ("sum" : Str) then some .sum else if x = ("repr" : Str) then some .repr
  else if x = ("tuple" : Str) then some .tuple else if x = ("list" : Str) then some .list else if x = ("int" : Str) then some .int else none
def mtOf (x : Str) (n : Nat) : Option Mt :=
  if x = ("append" : Str) then (if n = 1 then some .append else none) else if x = ("extend" : Str) then (if n = 1 then some .extend else none)
  else if x = ("pop" : Str) then (if n = 0 then some .pop else if n = 1 then some .popAt else none) else none
def isRange (c : CC) : Expr → Option Expr
  | .Call (.Name f _) [a] [] _ => if f = ("range" : Str) && isBi c f && !isStar a then some a else none
  | _ => none
def inSlots (tg : Tg) (own : List Nat) : Bool := (slotsT tg).all fun i => decide (i ∈ own)
def cConst : Const → Option D
  | .int i => some (.int i)
  | .str x => some (.str x)
  | .bool b => some (.bl b)
  | .none => some .non
  | _ => none
mutual
def cE : Nat → CC → Expr → Option Ex
  | 0, _, _ => none
  | n + 1, c, e => match e with
    | .Name x _ => (lkV c x).map .var
    | .Constant k _ _ => (cConst k).map .cst
    | .BinOp a op b _ => match cOp op, cE n c a, cE n c b with
      | some o, some x, some y => some (.op o x y)
      | _, _, _ => none
    | .UnaryOp .USub a _ => (cE n c a).map .neg
    | .UnaryOp .Not a _ => (cE n c a).map .notE
    | .Compare a [op] [b] _ => match cCm op, cE n c a, cE n c b with
      | some o, some x, some y => if isSetD b then none else some (.cmp o x y)
      | _, _, _ => none
    | .BoolOp .And [a] _ => cE n c a
    | .BoolOp .Or [a] _ => cE n c a
    | .BoolOp .And (a :: b :: r) p => match cE n c a, cE n c (.BoolOp .And (b :: r) p) with
      | some x, some y => some (.andE x y)
      | _, _ => none
    | .BoolOp .Or (a :: b :: r) p => match cE n c a, cE n c (.BoolOp .Or (b :: r) p) with
      | some x, some y => some (.orE x y)
      | _, _ => none
    | .IfExp t a b _ => match cT n c t, cE n c a, cE n c b with
      | some z, some x, some y => some (.ite z x y)
      | _, _, _ => none
    | .Tuple es _ _ => (cL n c es).map .tup
    | .List es _ => (cL n c es).map .lst
    | .Subscript a (.Slice lo hi none _) _ => match cE n c a, cO n c lo, cO n c hi with
      | some x, some y, some z => some (.sli x y z)
      | _, _, _ => none
    | .Subscript a i _ => if isSli i then none else match cE n c a, cE n c i with
      | some x, some y => some (.idx x y)
      | _, _ => none
    | .Call (.Name f _) es [] _ => match c.F.lookup f with
      | some (i, np) => if isGl c f && decide (es.length = np) then (cL n c es).map fun l => .call i l else none
      | none => match es with
        | [a] => match biOf f with
          | some .list => match isRange c a with
            | some r => if isBi c f then (cE n c r).map .listRng else none
            | none => if isBi c f then (cL n c [a]).map fun l => .bi .list l else none
          | some .tuple => match isRange c a with
            | some r => if isBi c f then (cE n c r).map .tupRng else none
            | none => if isBi c f then (cL n c [a]).map fun l => .bi .tuple l else none
          | some b => if isBi c f then (cL n c [a]).map fun l => .bi b l else none
          | none => none
        | _ => none
    | .Call (.Name f _) es kws _ => match c.F.lookup f, kwNames kws with
      | some (i, np), some ks => match c.KW.find? fun q => decide (q.1 = f ∧ q.2.1 = es.length ∧ q.2.2.1 = ks) with
        | some q => if isGl c f then match cL n c es, cL n c (kws.map (·.value)) with
          | some l, some l2 => some (.callP i l l2 q.2.2.2)
          | _, _ => none else none
        | none => none
      | none, some _ => match es, kws with
        | [a], [⟨some kn, .Name g _, _⟩] => if f = ("sorted" : Str) then (if kn = ("key" : Str) then (if isBi c f && isGl c g && !isStar a then match c.F.lookup g, cE n c a with
            | some (j, 1), some x => some (.sortK j x)
            | _, _ => none else none) else none) else none
        | _, _ => none
      | _, _ => none
    | .Call (.Attribute o m ap) es [] p => if (ap.endLine == p.line) && okBase o then
        (if m = ("bit_length" : Str) then (match es with
          | [] => (cE n c o).map .bits
          | _ => none)
        else match mtOf m es.length, cE n c o, cL n c es with
          | some k, some x, some l => some (.mt k x l)
          | _, _, _ => none) else none
    | .ListComp el [⟨tg, it, ifs, 0⟩] sc _ =>
      if blkC c.N c.sc sc (ownOf c.N sc) then match cTg (inBlk c sc) tg, cI n c tg it, cIf n (inBlk c sc) ifs, cE n (inBlk c sc) el with
        | some t, some i, some x, some y => if inSlots t ((ownOf c.N sc).map (·.2)) then some (.comp1 t i x y ((ownOf c.N sc).map (·.2))) else none
        | _, _, _, _ => none
      else none
    | .ListComp el [⟨tg, it, ifs, 0⟩, ⟨tg1, it1, ifs1, 0⟩] sc _ =>
      if blkC c.N c.sc sc (ownOf c.N sc) then match cTg (inBlk c sc) tg, cI n c tg it, cIf n (inBlk c sc) ifs, cTg (inBlk c sc) tg1, cI n (inBlk c sc) tg1 it1, cIf n (inBlk c sc) ifs1, cE n (inBlk c sc) el with
        | some t, some i, some x, some t1, some i1, some x1, some y => if inSlots t ((ownOf c.N sc).map (·.2)) && inSlots t1 (slotsT t1) && ((slotsT t1).all fun j => decide (j ∈ (ownOf c.N sc).map (·.2))) then some (.comp2 t i x t1 i1 x1 y ((ownOf c.N sc).map (·.2)) (slotsT t1)) else none
        | _, _, _, _, _, _, _ => none
      else none
    | _ => none
def cT : Nat → CC → Expr → Option Tx
  | 0, _, _ => none
  | n + 1, c, e => match e with
    | .UnaryOp .Not a _ => (cT n c a).map .not
    | .BoolOp .And [a] _ => cT n c a
    | .BoolOp .Or [a] _ => cT n c a
    | .BoolOp .And (a :: b :: r) p => match cT n c a, cT n c (.BoolOp .And (b :: r) p) with
      | some x, some y => some (.and x y)
      | _, _ => none
    | .BoolOp .Or (a :: b :: r) p => match cT n c a, cT n c (.BoolOp .Or (b :: r) p) with
      | some x, some y => some (.or x y)
      | _, _ => none
    | .Compare a [op] [b] _ => match cCm op, cE n c a, cE n c b with
      | some o, some x, some y => if isSetD b then none else some (.cmp o x y)
      | _, _, _ => none
    | e => if plainT e then (cE n c e).map .val else none
def cL : Nat → CC → List Expr → Option Exs
  | 0, _, _ => none
  | _ + 1, _, [] => some .nil
  | n + 1, c, e :: es => if isStar e then none else match cE n c e, cL n c es with
    | some x, some l => some (.cons x l)
    | _, _ => none
def cO : Nat → CC → Option Expr → Option Exo
  | 0, _, _ => none
  | _ + 1, _, none => some .none
  | n + 1, c, some e => (cE n c e).map .some
def cIf : Nat → CC → List Expr → Option Tx
  | 0, _, _ => none
  | _ + 1, _, [] => some .yes
  | n + 1, c, [e] => cT n c e
  | _, _, _ => none
def cI : Nat → CC → Expr → Expr → Option Itr
  | 0, _, _, _ => none
  | n + 1, c, tg, e => if isSetD e then none else match e with
    | .Call (.Name f p) es [] q =>
      if f = ("range" : Str) then (if isBi c f then match es with
        | [a] => if isStar a then none else (cE n c a).map .rng1
        | [a, b] => if isStar a || isStar b then none else match cE n c a, cE n c b with
          | some x, some y => some (.rng2 x y)
          | _, _ => none
        | _ => none else none)
      else if f = ("enumerate" : Str) then (if isBi c f && isTupD tg then match es with
        | [a] => if isStar a then none else (cE n c a).map .enum
        | _ => none else none)
      else (cE n c (.Call (.Name f p) es [] q)).map .ex
    | e => (cE n c e).map .ex
end
end Ev

set_option Elab.async false
set_option linter.all false
set_option maxRecDepth 100000
set_option maxHeartbeats 4000000
namespace Ev
open PySem PySem.Spec PyProof.Rows L2

/-! ### side facts of the text -/
theorem star_each {env : PySem.Env} {e : Expr} {es : List Expr} (h : isStar e = false) : starEach (e :: es) env = (false, eval e env) :: starEach es env := by
  cases e <;> first
    | rfl
    | cases h
theorem star_any {env : PySem.Env} : ∀ {es : List Expr}, (∀ e ∈ es, isStar e = false) → (starEach es env).any (·.1) = false
  | [], _ => rfl
  | e :: es, h => by
    rw [star_each (h e List.mem_cons_self), List.any_cons, star_any fun x hx => h x (List.mem_cons_of_mem _ hx)]; rfl
theorem back_any {env : PySem.Env} {pos : Pos} {es : List Expr} (h : ∀ e ∈ es, isStar e = false) : (backTo pos (starEach es env)).any (·.1) = false := by
  have e := star_any (env := env) h
  unfold backTo
  rw [List.any_map]
  exact e
theorem mark_no {op : CmpOp} {b : Expr} (h : isSetD b = false) : behindInMarks op b = false := by
  cases b <;> first
    | rfl
    | cases h
theorem fold_no {e : Expr} (h : isSetD e = false) (env : PySem.Env) (x : Value) : foldedSetIterable e env x = pure x := by
  cases e <;> first
    | rfl
    | cases h
theorem plain_ix {i : Expr} (h : isSli i = false) : PlainIx i := by
  intro o j
  cases i <;> first
    | rfl
    | cases h
theorem plain_t {e : Expr} (h : plainT e = true) (env : PySem.Env) (whole : Sem Value) : isTrue e env whole = (do let v ← whole; standAt e.pos; holding [v] (truthy v)) := by
  cases e with
  | UnaryOp op a p => cases op <;> first
    | rfl
    | cases h
  | BoolOp _ _ _ => cases h
  | IfExp _ _ _ _ => cases h
  | Compare _ _ _ _ => cases h
  | _ => rfl
theorem base_ok {o : Expr} (h : okBase o = true) (nm : Str) (env : PySem.Env) (w : Sem Value) : attributeBase o nm env w = w := by
  unfold attributeBase
  split
  · cases h
  · rfl
theorem not_sw {e : Expr} (h : isCompr e = false) (tg : Option Expr) (line : Nat) (env : PySem.Env) : swapsWith e tg line env = pure false := by
  cases e <;> first
    | rfl
    | cases h
theorem sw_other {e tg : Expr} (h : ∀ x p, tg ≠ .Name x p) (line : Nat) (env : PySem.Env) : swapsWith e (some tg) line env = pure false := by
  cases e <;> cases tg <;> first
    | rfl
    | exact absurd rfl (h _ _)
theorem swst_no {e tg : Expr} (h : isTupL tg = false ∨ isTupD e = false) (env : PySem.Env) : swappedStores [tg] e env = pure none := by
  rcases h with h | h
  · cases tg <;> first
      | exact Bool.noConfusion h
      | (cases e <;> rfl)
  · cases e <;> first
      | exact Bool.noConfusion h
      | (cases tg <;> rfl)

/-! ### the context -/
section
variable (K : PySem.W.Frag)
def SpF (cf : CallF) (i n : Nat) : Sp := fun vs H Q _ => vs.length = n ∧ ∃ m S ds d S', Sim K m S H ∧ DenL K m S.length H ds vs ∧ cf i ds S = some (d, S') ∧ ∀ v H' m', Go K m S H m' S' H' → Den K m' S'.length H' d v → Q v H'
end
def gP (np nk : Nat) (pm : List Nat) (us ws : List Value) : List Value := if us.length = np ∧ ws.length = nk then pm.map fun i => (us ++ ws).getD i .none else []
def gPV (np nk : Nat) (pm : List Nat) (us ws : List V) : List V := if us.length = np ∧ ws.length = nk then pm.map fun i => (us ++ ws).getD i .non else []

structure Ctx (X : Cx) (c : CC) (cf : CallF) : Prop where
  sc : X.env.scope = c.sc
  N : X.N = c.N
  nd : c.N.Nodup
  calm : X.calm = true
  xe : X.xe = fun _ _ => False
  gd : X.A.guards = some []
  un : X.A.units + 64 < cLine
  w : ∀ x ∈ c.W, Loc X.env.scope x ∧ (X.fn x = true ∨ X.env.scope.names.lookup x = some .local)
  b : ∀ x ∈ c.B, X.mg x = none
  f : ∀ x i n, c.F.lookup x = some (i, n) → ∃ a fd ps k, X.mg x = some (.ref a) ∧ PySem.W.keepIn X.K (.ref a) = true ∧ L2.Binds X.K fd ps [] ∧ Room (k + 2) X.A ∧ FnG X.prog X.w X.K X.mg X.base CX0 k a fd ps (SpF X.K cf i n) ∧
    (∀ ds S r, cf i ds S = some r → ds.length = n) ∧ ∀ np ks pm, (x, np, ks, pm) ∈ c.KW → KBinds X.K fd ps ks (gP np ks.length pm) (gPV np ks.length pm)

theorem slot_at {N : List Str} {x : Str} {i : Nat} (h : slotOf N x = some i) : N[i]? = some x := by
  unfold slotOf at h
  obtain ⟨hi, h1, h2⟩ := List.findIdx?_eq_some_iff_getElem.mp h
  rw [List.getElem?_eq_getElem hi]
  simpa using h1
theorem bad_no {x : Str} (h : bad x = false) : (x == ("__debug__" : Str)) = false ∧ (x == ("__classdict__" : Str)) = false ∧ x ≠ ("__name__" : Str) := by
  unfold bad at h
  simp only [Bool.or_eq_false_iff] at h
  exact ⟨h.1.1, h.1.2, fun e => by rw [e] at h; simp at h⟩
theorem lkV_ok {c : CC} {x : Str} {i : Nat} (h : lkV c x = some i) : c.N[i]? = some x ∧ Vis c.sc x ∧ bad x = false := by
  unfold lkV at h
  split at h
  · rename_i hc
    simp only [Bool.and_eq_true, Bool.not_eq_true'] at hc
    refine ⟨slot_at h, ?_, hc.2⟩
    have hv := hc.1
    unfold visB at hv
    unfold Vis
    split at hv
    · exact .inl (by assumption)
    · exact .inr (.inl (by assumption))
    · exact .inr (.inr (by assumption))
    · cases hv
  · cases h
theorem lkW_ok {c : CC} {x : Str} {i : Nat} (h : lkW c x = some i) : c.N[i]? = some x ∧ x ∈ c.W := by
  unfold lkW at h
  split at h
  · rename_i hc
    exact ⟨slot_at h, of_decide_eq_true hc⟩
  · cases h
theorem gl_ok {c : CC} {x : Str} (h : isGl c x = true) : c.sc.names.lookup x = some .globalImplicit ∧ bad x = false := by
  unfold isGl at h
  simp only [Bool.and_eq_true, Bool.not_eq_true', decide_eq_true_eq] at h
  exact h
theorem bi_isBi {c : CC} {x : Str} (h : isBi c x = true) : isGl c x = true ∧ x ∈ c.B := by
  unfold isBi at h
  simp only [Bool.and_eq_true, decide_eq_true_eq] at h
  exact h
section
variable {X : Cx} {c : CC} {cf : CallF}
theorem Ctx.var (C : Ctx X c cf) {x : Str} {i : Nat} {p : Pos} (h : lkV c x = some i) : PE X (.Name x p) (tVar i) := by
  obtain ⟨h1, h2, h3⟩ := lkV_ok h
  obtain ⟨b1, b2, _⟩ := bad_no h3
  exact pe_var (by rw [C.N]; exact h1) (by rw [C.sc]; exact h2) b1 b2
theorem Ctx.name (C : Ctx X c cf) {x : Str} {i : Nat} {p : Pos} (h : lkW c x = some i) : PG X (.Name x p) (gName i) := by
  obtain ⟨h1, h2⟩ := lkW_ok h
  obtain ⟨h3, h4⟩ := C.w x h2
  exact pg_name (by rw [C.N]; exact C.nd) (by rw [C.N]; exact h1) h3 h4
theorem Ctx.names (C : Ctx X c cf) : ∀ {es : List Expr} {is : List Nat}, cTgs c es = some is → PGs X es (gTs is) ∧ es.length = is.length
  | [], is, h => by cases h; exact ⟨pgs_nil, rfl⟩
  | e :: es, is, h => by
    cases e with
    | Name x p =>
      simp only [cTgs] at h
      cases h1 : lkW c x with
      | none => rw [h1] at h; cases h
      | some i =>
        cases h2 : cTgs c es with
        | none => rw [h1, h2] at h; cases h
        | some js =>
          rw [h1, h2] at h
          cases h
          obtain ⟨g1, g2⟩ := Ctx.names C h2
          exact ⟨pgs_cons (C.name h1) g1, by simp [g2]⟩
    | _ => cases h
theorem asg_names {env : PySem.Env} : ∀ {es : List Expr} {is : List Nat}, cTgs c es = some is → (assignEach es env).length = is.length ∧ (assignEach es env).findIdx? (fun x => x.1) = none
  | [], is, h => by cases h; exact ⟨rfl, rfl⟩
  | e :: es, is, h => by
    cases e with
    | Name x p =>
      simp only [cTgs] at h
      cases h1 : lkW c x with
      | none => rw [h1] at h; cases h
      | some i =>
        cases h2 : cTgs c es with
        | none => rw [h1, h2] at h; cases h
        | some js =>
          rw [h1, h2] at h
          cases h
          obtain ⟨g1, g2⟩ := asg_names (env := env) h2
          refine ⟨by show (assignEach es env).length + 1 = _; rw [g1]; rfl, ?_⟩
          show List.findIdx? (fun x => x.1) ((false, _) :: assignEach es env) = none
          rw [List.findIdx?_cons, g2]
          rfl
    | _ => cases h
theorem Ctx.tg (C : Ctx X c cf) {e : Expr} {t : Tg} (h : cTg c e = some t) : PG X e (gT X.K t) := by
  cases e with
  | Name x p =>
    obtain ⟨i, h1, h2⟩ := mp1 (show (lkW c x).map Tg.nm = some t from h)
    subst h2
    exact C.name h1
  | Tuple es k p =>
    obtain ⟨is, h1, h2⟩ := mp1 (show (cTgs c es).map Tg.tp = some t from h)
    subst h2
    obtain ⟨g1, g2⟩ := C.names h1
    obtain ⟨g3, g4⟩ := asg_names (env := X.env) h1
    exact pg_tup (X := X) (k := k) (n := is.length) (pos := p) C.calm g1 g3 g4
  | _ => cases h
theorem Ctx.gl (C : Ctx X c cf) {x : Str} (h : isGl c x = true) : Gl X x := by
  show X.env.scope.names.lookup x = some .globalImplicit
  rw [C.sc]
  exact (gl_ok h).1
theorem own_slots {N : List Str} {scope : Scope} {own : List (Str × Nat)} (h : own = ownOf N scope) : True := trivial
theorem w_of {scope : Scope} {x : Str} (h : x ∈ wOf scope) : scope.names.lookup x = some .local ∨ scope.names.lookup x = some .cell := by
  unfold wOf at h
  obtain ⟨y, hy, e⟩ := List.mem_filterMap.mp h
  split at e
  · cases e; exact .inl (by assumption)
  · cases e; exact .inr (by assumption)
  · cases e
/-- the block of a comprehension -/
theorem Ctx.blk (C : Ctx X c cf) (scope : Scope) (s : Shared) (H : Hp) (Cl : Addr) (cl : List (Str × Addr)) (fp : List Addr) : Ctx (X.blk s H scope (compEnvC scope cl Cl X.env) fp) (inBlk c scope) cf := by
  have hsc : (compEnvC scope cl Cl X.env).scope = relS scope c.sc := by rw [← C.sc]; rfl
  refine ⟨hsc, C.N, C.nd, C.calm, rfl, C.gd, C.un, fun x hx => ?_, C.b, C.f⟩
  show L2.Loc (compEnvC scope cl Cl X.env).scope x ∧ _
  have hl : (relS scope c.sc).names.lookup x = scope.names.lookup x := by
    rcases w_of hx with h | h
    · rw [h]; exact lookup_relS_keep (by decide) h
    · rw [h]; exact lookup_relS_keep (by decide) h
  refine ⟨?_, ?_⟩
  · rw [hsc]
    unfold L2.Loc
    rw [hl]
    exact w_of hx
  · rcases w_of hx with h | h
    · right
      show (compEnvC scope cl Cl X.env).scope.names.lookup x = _
      rw [hsc, hl, h]
    · left
      show (scope.names.lookup x == some .cell) = true
      rw [h]; rfl
end
end Ev

set_option Elab.async false
set_option linter.all false
set_option maxRecDepth 100000
set_option maxHeartbeats 4000000
namespace Ev
open PySem PySem.Spec PyProof.Rows L2

structure IH (n : Nat) (cf : CallF) : Prop where
  e : ∀ (X : Cx) (c : CC) (e : Expr) (i : Ex), Ctx X c cf → cE n c e = some i → PE X e (TR X.K (evE cf i))
  t : ∀ (X : Cx) (c : CC) (e : Expr) (i : Tx), Ctx X c cf → cT n c e = some i → PT X e (TRB X.K (evB cf i))
  l : ∀ (X : Cx) (c : CC) (es : List Expr) (i : Exs), Ctx X c cf → cL n c es = some i → PA X es (TRL X.K (evL cf i)) ∧ ∀ e ∈ es, isStar e = false
  k : ∀ (X : Cx) (c : CC) (kws : List Keyword) (i : Exs), Ctx X c cf → cL n c (kws.map (·.value)) = some i → PK X kws (TRL X.K (evL cf i))
  o : ∀ (X : Cx) (c : CC) (e : Option Expr) (i : Exo), Ctx X c cf → cO n c e = some i → PO X e (TRO X.K (evO cf i))
  f : ∀ (X : Cx) (c : CC) (es : List Expr) (i : Tx), Ctx X c cf → cIf n c es = some i → PTs X es (TRB X.K (evB cf i))
  i : ∀ (X : Cx) (c : CC) (tg e : Expr) (i : Itr), Ctx X c cf → cI n c tg e = some i → PI X tg e (TRI X.K (evI cf i)) ∧ isSetD e = false

theorem PK.mn {X : Cx} {e : List Keyword} {t t' : TA} (h : PK X e t) (i : ∀ s H Q, t' s H Q → t s H Q) : PK X e t' := ⟨fun pos pins s r H Q I q => h.run pos pins s r H Q I (i _ _ _ q)⟩
theorem PTs.mn {X : Cx} {e : List Expr} {t t' : TT} (h : PTs X e t) (i : ∀ s H Q, t' s H Q → t s H Q) : PTs X e t' := ⟨fun pins s r H Q I q => h.run pins s r H Q I (i _ _ _ q)⟩
variable {cf : CallF}
theorem ih_zero : IH 0 cf := by
  constructor <;> (intro X c; intros; rename_i h; first | (unfold cE at h; cases h) | (unfold cT at h; cases h) | (unfold cL at h; cases h) | (unfold cO at h; cases h) | (unfold cIf at h; cases h) | (unfold cI at h; cases h))
theorem st_l {n : Nat} (ih : IH n cf) (X : Cx) (c : CC) (es : List Expr) (i : Exs) (C : Ctx X c cf) (h : cL (n + 1) c es = some i) : PA X es (TRL X.K (evL cf i)) ∧ ∀ e ∈ es, isStar e = false := by
  cases es with
  | nil =>
    simp only [cL] at h
    cases h
    exact ⟨PA.mn pa_nil fun s H Q q => by simp only [evL] at q; exact tr_nil q, fun e he => nomatch he⟩
  | cons e es =>
    simp only [cL] at h
    split at h
    · cases h
    · rename_i hs
      have hs : isStar e = false := by simpa using hs
      split at h
      · rename_i x l h1 h2
        cases h
        obtain ⟨p, q⟩ := ih.l X c es l C h2
        refine ⟨PA.mn (pa_cons (ih.e X c e x C h1) p (star_each hs)) fun s H Q q => by simp only [evL] at q; exact tr_cons q, fun e' he => ?_⟩
        rcases List.mem_cons.mp he with rfl | he
        · exact hs
        · exact q e' he
      · cases h
theorem st_k {n : Nat} (ih : IH n cf) (X : Cx) (c : CC) (kws : List Keyword) (i : Exs) (C : Ctx X c cf) (h : cL (n + 1) c (kws.map (·.value)) = some i) : PK X kws (TRL X.K (evL cf i)) := by
  cases kws with
  | nil =>
    simp only [List.map_nil, cL] at h
    cases h
    exact PK.mn pk_nil fun s H Q q => by simp only [evL] at q; exact tr_nil q
  | cons k kws =>
    simp only [List.map_cons, cL] at h
    split at h
    · cases h
    · split at h
      · rename_i x l h1 h2
        cases h
        obtain ⟨nm, v, p⟩ := k
        exact PK.mn (pk_cons (ih.e X c v x C h1) (ih.k X c kws l C h2)) fun s H Q q => by simp only [evL] at q; exact tr_cons q
      · cases h
theorem st_o {n : Nat} (ih : IH n cf) (X : Cx) (c : CC) (e : Option Expr) (i : Exo) (C : Ctx X c cf) (h : cO (n + 1) c e = some i) : PO X e (TRO X.K (evO cf i)) := by
  cases e with
  | none =>
    simp only [cO] at h
    cases h
    exact PO.mn po_none fun s H Q q => by simp only [evO] at q; exact to_none q
  | some e =>
    simp only [cO] at h
    obtain ⟨x, h1, h2⟩ := mp1 h
    subst h2
    exact PO.mn (po_some (ih.e X c e x C h1)) fun s H Q q => by simp only [evO] at q; exact to_some q
theorem st_f {n : Nat} (ih : IH n cf) (X : Cx) (c : CC) (es : List Expr) (i : Tx) (C : Ctx X c cf) (h : cIf (n + 1) c es = some i) : PTs X es (TRB X.K (evB cf i)) := by
  match es, h with
  | [], h =>
    simp only [cIf] at h
    cases h
    exact PTs.mn pts_nil fun s H Q q => by simp only [evB] at q; exact tb_yes q
  | [e], h =>
    simp only [cIf] at h
    exact pts_one (ih.t X c e i C h)
  | _ :: _ :: _, h => simp only [cIf] at h; cases h
theorem st_cmp {n : Nat} (ih : IH n cf) {X : Cx} {c : CC} {a b : Expr} {op : CmpOp} {o : Cm} {x y : Ex} {p : Pos} (C : Ctx X c cf) (h1 : cCm op = some o) (h2 : cE n c a = some x) (h3 : cE n c b = some y) (hs : isSetD b = false) :
    PT X (.Compare a [op] [b] p) (TRB X.K (evB cf (.cmp o x y))) ∧ PE X (.Compare a [op] [b] p) (TR X.K (evE cf (.cmp o x y))) := by
  have e : op = cop o := by cases op <;> cases h1 <;> rfl
  subst e
  refine ⟨PT.mn (pt_cmpR (cm_ok C.un o) (ih.e X c a x C h2) (ih.e X c b y C h3) (mark_no hs)) fun s H Q q => by simp only [evB] at q; exact tb_cmp o q, ?_⟩
  exact PE.mn (pe_cmpR (cm_ok C.un o) (ih.e X c a x C h2) (ih.e X c b y C h3) (mark_no hs)) fun s H Q q => by simp only [evE] at q; exact tr_bin (cm_good2 o) q
theorem pw_of {X : Cx} {op : BoolOp} {a : Expr} {p : Pos} {t : TT} (h : PT X a t) : PW X (.BoolOp op [a] p) t := by
  cases op
  · exact pw_and1 h
  · exact pw_or1 h
/-- and, or: by the number of parts -/
theorem pw_t {n : Nat} (ih : IH n cf) {X : Cx} {c : CC} {op : BoolOp} {vs : List Expr} {p : Pos} {i : Tx} (C : Ctx X c cf) (h : cT n c (.BoolOp op vs p) = some i) : PW X (.BoolOp op vs p) (TRB X.K (evB cf i)) := by
  -- a test of a chain does not look at its whole
  refine ⟨fun wh pins s σ H Q I q => ?_⟩
  have hp := (ih.t X c _ i C h).run pins s σ H Q I q
  have e : ∀ w : Sem Value, PySem.isTrue (.BoolOp op vs p) X.env w = allTrue op vs X.env := fun w => by rw [PySem.isTrue]
  rw [e] at hp ⊢
  exact hp
theorem st_t {n : Nat} (ih : IH n cf) (X : Cx) (c : CC) (e : Expr) (i : Tx) (C : Ctx X c cf) (h : cT (n + 1) c e = some i) : PT X e (TRB X.K (evB cf i)) := by
  unfold cT at h
  split at h
  · obtain ⟨x, h1, h2⟩ := mp1 h
    subst h2
    exact PT.mn (pt_not (ih.t X c _ x C h1)) fun s H Q q => by simp only [evB] at q; exact tb_not q
  · exact (pw_of (ih.t X c _ i C h)).pt
  · exact (pw_of (ih.t X c _ i C h)).pt
  · split at h
    · rename_i x y h1 h2
      cases h
      exact PT.mn (pw_and (ih.t X c _ x C h1) (pw_t ih C h2)).pt fun s H Q q => by simp only [evB] at q; exact tb_and q
    · cases h
  · split at h
    · rename_i x y h1 h2
      cases h
      exact PT.mn (pw_or (ih.t X c _ x C h1) (pw_t ih C h2)).pt fun s H Q q => by simp only [evB] at q; exact tb_or q
    · cases h
  · split at h
    · rename_i o x y h1 h2 h3
      split at h
      · cases h
      · rename_i hs
        cases h
        exact (st_cmp ih C h1 h2 h3 (by simpa using hs)).1
    · cases h
  · split at h
    · rename_i hp
      obtain ⟨x, h1, h2⟩ := mp1 h
      subst h2
      exact PT.mn (pt_truth (ih.e X c _ x C h1) (plain_t hp X.env)) fun s H Q q => by simp only [evB] at q; exact tb_val q
    · cases h
end Ev

set_option Elab.async false
set_option linter.all false
set_option maxRecDepth 100000
set_option maxHeartbeats 8000000
namespace Ev
open PySem PySem.Spec PyProof.Rows L2
variable {cf : CallF}

theorem star1 {env : PySem.Env} {a : Expr} (h : isStar a = false) : starEach [a] env = [(false, eval a env)] := star_each h
theorem pa1 {X : Cx} {a : Expr} {t : TE} (h : PE X a t) (hs : isStar a = false) : PA X [a] (tCons t tNil) := pa_cons h pa_nil (star_each hs)
theorem st_i {n : Nat} (ih : IH n cf) (X : Cx) (c : CC) (tg e : Expr) (i : Itr) (C : Ctx X c cf) (h : cI (n + 1) c tg e = some i) : PI X tg e (TRI X.K (evI cf i)) ∧ isSetD e = false := by
  have gen : ∀ x, cE n c e = some x → PI X tg e (TRI X.K (evI cf (.ex x))) := fun x hx =>
    PI.mn (PI.or (pi_list (ih.e X c e x C hx)) (pi_tup (ih.e X c e x C hx))) fun s H Q q => by simp only [evI] at q; exact ti_ex q
  unfold cI at h
  split at h
  · cases h
  · rename_i hs
    have hs : isSetD e = false := by simpa using hs
    refine ⟨?_, hs⟩
    split at h
    · rename_i f p es q
      split at h
      · rename_i hf
        subst hf
        split at h
        · rename_i hb
          obtain ⟨hg, hB⟩ := bi_isBi hb
          split at h
          · rename_i a
            split at h
            · cases h
            · rename_i ha
              have ha : isStar a = false := by simpa using ha
              obtain ⟨x, h1, h2⟩ := mp1 h
              subst h2
              exact PI.mn (pi_range1 (C.gl hg) (C.b _ hB) (pa1 (ih.e X c a x C h1) ha) (star1 ha)) fun s H Q q => by simp only [evI] at q; exact ti_rng1 q
          · rename_i a b
            split at h
            · cases h
            · rename_i hab
              simp only [Bool.or_eq_true, not_or, Bool.not_eq_true] at hab
              split at h
              · rename_i x y h1 h2
                cases h
                have e1 : starEach [a, b] X.env = [(false, eval a X.env), (false, eval b X.env)] := by rw [star_each hab.1, star1 hab.2]
                exact PI.mn (pi_range2 (C.gl hg) (C.b _ hB) (pa_cons (ih.e X c a x C h1) (pa1 (ih.e X c b y C h2) hab.2) (star_each hab.1)) e1 (star1 hab.2)) fun s H Q q => by simp only [evI] at q; exact ti_rng2 q
              · cases h
          · cases h
        · cases h
      · split at h
        · rename_i hf
          subst hf
          split at h
          · rename_i hb
            simp only [Bool.and_eq_true] at hb
            obtain ⟨hg, hB⟩ := bi_isBi hb.1
            have ht := hb.2
            split at h
            · rename_i a
              split at h
              · cases h
              · rename_i ha
                have ha : isStar a = false := by simpa using ha
                obtain ⟨x, h1, h2⟩ := mp1 h
                subst h2
                cases tg with
                | Tuple el k tp => exact PI.mn (pi_enum (C.gl hg) (C.b _ hB) (pa1 (ih.e X c a x C h1) ha) (star1 ha)) fun s H Q q => by simp only [evI] at q; exact ti_enum q
                | _ => cases ht
            · cases h
          · cases h
        · obtain ⟨x, h1, h2⟩ := mp1 h
          subst h2
          exact gen x h1
    · obtain ⟨x, h1, h2⟩ := mp1 h
      subst h2
      exact gen x h1
end Ev

set_option Elab.async false
set_option linter.all false
set_option maxRecDepth 100000
set_option maxHeartbeats 16000000
namespace Ev
open PySem PySem.Spec PyProof.Rows L2
variable {cf : CallF}

def lenX : Exs → Nat
  | .nil => 0
  | .cons _ l => lenX l + 1
theorem evL_len : ∀ {l : Exs} {r : Env} {S : Store} {p : List D × Store}, evL cf l r S = some p → p.1.length = lenX l
  | .nil, r, S, p, h => by simp only [evL] at h; cases h; rfl
  | .cons e l, r, S, p, h => by
    simp only [evL] at h
    obtain ⟨a, h1, h⟩ := bnd h
    obtain ⟨b, h2, h⟩ := bnd h
    cases h
    show b.1.length + 1 = lenX l + 1
    rw [evL_len h2]
theorem cL_len {c : CC} : ∀ {n : Nat} {es : List Expr} {l : Exs}, cL n c es = some l → lenX l = es.length
  | 0, es, l, h => by unfold cL at h; cases h
  | n + 1, [], l, h => by simp only [cL] at h; cases h; rfl
  | n + 1, e :: es, l, h => by
    simp only [cL] at h
    split at h
    · cases h
    · split at h
      · rename_i x l' h1 h2
        cases h
        show lenX l' + 1 = es.length + 1
        rw [cL_len h2]
      · cases h
section
variable {K : PySem.W.Frag}
theorem getD_den {m : Nat → Addr} {L : Nat} {H : Hp} {ds : List D} {vs : List V} {i : Nat} {d : D} (h : DenL K m L H ds vs) (e : ds[i]? = some d) : Den K m L H d (vs.getD i .non) := by
  obtain ⟨v, h1, h2⟩ := h.get e
  rw [List.getD_eq_getElem?_getD, h1]
  exact h2
theorem perm_den {m : Nat → Addr} {L : Nat} {H : Hp} {ds : List D} {vs : List V} (h : DenL K m L H ds vs) : ∀ {pm : List Nat} {es : List D}, permL ds pm = some es → DenL K m L H es (pm.map fun i => vs.getD i .non)
  | [], es, e => by cases e; exact DenL.nil
  | i :: pm, es, e => by
    simp only [permL] at e
    cases e1 : ds[i]? with
    | none => rw [e1] at e; cases e
    | some d =>
      cases e2 : permL ds pm with
      | none => rw [e1, e2] at e; cases e
      | some r =>
        rw [e1, e2] at e
        cases e
        exact DenL.cons (getD_den h e1) (perm_den h e2)
theorem tr_call {i n : Nat} (hn : ∀ ds S r, cf i ds S = some r → ds.length = n) {fl : Env → Store → RL} {s : L2.St} {H : Hp} {Q : VK} {E : XK} (h : TR K (fun r S => (fl r S).bind fun p => cf i p.1 p.2) s H Q) : tCall (SpF K cf i n) [] E (TRL K fl) s H Q := by
  obtain ⟨m, S, ρ, d, S', sim, env, e, k⟩ := h
  obtain ⟨⟨ds, S1⟩, e1, e⟩ := bnd e
  refine ⟨m, S, ρ, ds, S1, sim, env, e1, fun vs H1 m1 g1 hv => ?_⟩
  refine ⟨?_, m1, S1, ds, d, S', g1.sim, ?_, e, fun v H' m' g hd => k _ _ _ (g1.trans g) hd⟩
  · rw [List.append_nil, ← hv.len]
    exact hn _ _ _ e
  · rw [List.append_nil]
    exact hv
theorem tr_call0 {i n : Nat} (hn : ∀ ds S r, cf i ds S = some r → ds.length = n) {s : L2.St} {H : Hp} {Q : VK} {E : XK} (h : TR K (fun r S => (evL cf .nil r S).bind fun p => cf i p.1 p.2) s H Q) : tCall (SpF K cf i n) [] E tNil s H Q := by
  obtain ⟨m, S, ρ, d, S', sim, env, e, k⟩ := h
  obtain ⟨⟨ds, S1⟩, e1, e⟩ := bnd e
  simp only [evL] at e1
  cases e1
  exact ⟨hn _ _ _ e, m, S, [], d, S', sim, DenL.nil, e, k⟩
theorem tr_callP {i n np : Nat} {pm : List Nat} (hn : ∀ ds S r, cf i ds S = some r → ds.length = n) {l l2 : Exs} (h1 : lenX l = np) {s : L2.St} {H : Hp} {Q : VK} {E : XK} (h : TR K (fun r S => (evL cf l r S).bind fun p => (evL cf l2 r p.2).bind fun q => (permL (p.1 ++ q.1) pm).bind fun ds => cf i ds q.2) s H Q) :
    tCallK (SpF K cf i n) (gPV np (lenX l2) pm) E (TRL K (evL cf l)) (TRL K (evL cf l2)) s H Q := by
  obtain ⟨m, S, ρ, d, S', sim, env, e, k⟩ := h
  obtain ⟨⟨ds, S1⟩, e1, e⟩ := bnd e
  obtain ⟨⟨es, S2⟩, e2, e⟩ := bnd e
  obtain ⟨as, e3, e⟩ := bnd e
  refine ⟨m, S, ρ, ds, S1, sim, env, e1, fun vs H1 m1 g1 hv => ⟨m1, S1, ρ, es, S2, g1.sim, g1.env env, e2, fun zs H2 m2 g2 hz => ?_⟩⟩
  have hv2 := g2.denL hv
  have c1 : vs.length = np ∧ zs.length = lenX l2 := ⟨by rw [← hv.len]; exact (evL_len e1).trans h1, by rw [← hz.len]; exact evL_len e2⟩
  have ha : DenL K m2 S2.length H2 as (gPV np (lenX l2) pm vs zs) := by
    unfold gPV
    rw [if_pos c1]
    exact perm_den (hv2.app hz) e3
  exact ⟨by rw [← ha.len]; exact hn _ _ _ e, m2, S2, as, d, S', g2.sim, ha, e, fun v H' m' g hd => k _ _ _ ((g1.trans g2).trans g) hd⟩
theorem tr_callP0 {i n : Nat} {pm : List Nat} (hn : ∀ ds S r, cf i ds S = some r → ds.length = n) {l2 : Exs} {s : L2.St} {H : Hp} {Q : VK} {E : XK} (h : TR K (fun r S => (evL cf .nil r S).bind fun p => (evL cf l2 r p.2).bind fun q => (permL (p.1 ++ q.1) pm).bind fun ds => cf i ds q.2) s H Q) :
    tCallK (SpF K cf i n) (gPV 0 (lenX l2) pm) E tNil (TRL K (evL cf l2)) s H Q := by
  have h' := tr_callP (E := E) hn (l := .nil) (np := 0) rfl h
  obtain ⟨m, S, ρ, d, S', sim, env, e1, k⟩ := h'
  simp only [evL] at e1
  cases e1
  exact k [] H m (Go.refl sim) DenL.nil
theorem tr_mt (mt : Mt) {fa : Env → Store → R} {fl : Env → Store → RL} {s : L2.St} {H : Hp} {Q : VK} (h : TR K (fun r S => (fa r S).bind fun p => (fl r p.2).bind fun q => mtR mt p.1 q.1 q.2) s H Q) : tBM K "list" (rMt mt) (TR K fa) (TRL K fl) s H Q := by
  obtain ⟨m, S, ρ, d, S', sim, env, e, k⟩ := h
  obtain ⟨⟨dx, S1⟩, e1, e⟩ := bnd e
  obtain ⟨⟨dl, S2⟩, e2, e⟩ := bnd e
  refine ⟨m, S, ρ, dx, S1, sim, env, e1, fun x H1 m1 g1 hx => ⟨?_, m1, S1, ρ, dl, S2, g1.sim, g1.env env, e2, fun vs H2 m2 g2 hv => mt_good mt g2.sim (g2.den hx) hv e fun v H' m' g hd => k _ _ _ ((g1.trans g2).trans g) hd⟩⟩
  have : tyV K "list" x H1 := by
    dsimp only at e
    unfold mtR at e
    split at e
    · obtain ⟨a1, a2⟩ := hx.ref_inv
      obtain ⟨us, h1, _⟩ := g1.sim.cell _ _ (List.getElem?_eq_getElem a2)
      rw [a1]
      exact .inl ⟨rfl, us, SqL.of h1⟩
    · cases e
  exact this
theorem tr_mt0 (mt : Mt) {fa : Env → Store → R} {s : L2.St} {H : Hp} {Q : VK} (h : TR K (fun r S => (fa r S).bind fun p => (evL cf .nil r p.2).bind fun q => mtR mt p.1 q.1 q.2) s H Q) : tBM0 K "list" (rMt mt) (TR K fa) s H Q := by
  obtain ⟨m, S, ρ, dx, S1, sim, env, e1, k⟩ := tr_mt mt h
  refine ⟨m, S, ρ, dx, S1, sim, env, e1, fun x H1 m1 g1 hx => ?_⟩
  obtain ⟨h1, m2, S2, ρ2, dl, S3, sim2, env2, e2, k2⟩ := k x H1 m1 g1 hx
  refine ⟨h1, ?_⟩
  simp only [evL] at e2
  cases e2
  exact k2 [] H1 m2 (Go.refl sim2) DenL.nil
end
theorem pv1 {X : Cx} {a : Expr} {t : TE} {x : Str} {p q : Pos} {b : Bi} {s : Str} (hs : biV b = .builtin s.toString ∨ True) : True := trivial
/-- a built-in by its name -/
theorem pe_bi {X : Cx} {c : CC} (C : Ctx X c cf) {b : Bi} {f : Str} {a : Expr} {t : TA} {p q : Pos} (hb : biOf f = some b) (hi : isBi c f = true) (ha : PA X [a] t) (hs : isStar a = false) : PE X (.Call (.Name f p) [a] [] q) (tCB (rBi X.K b) t) := by
  obtain ⟨hg, hB⟩ := bi_isBi hi
  obtain ⟨b1, b2, b3⟩ := bad_no (gl_ok hg).2
  have ok := bi_ok C.calm C.gd C.un (X := X) b
  have hpl : (backTo q (starEach [] X.env)).any (·.1) = false := rfl
  unfold biOf at hb
  split at hb
  · rename_i e; cases hb; subst e
    exact pe_callB ok (C.gl hg) (C.b _ hB) PySem.boot_len ha b3 b1 (star_each hs) hpl
  · split at hb
    · rename_i e; cases hb; subst e
      exact pe_callB ok (C.gl hg) (C.b _ hB) (by decide +kernel) ha b3 b1 (star_each hs) hpl
    · split at hb
      · rename_i e; cases hb; subst e
        exact pe_callB ok (C.gl hg) (C.b _ hB) (by decide +kernel) ha b3 b1 (star_each hs) hpl
      · split at hb
        · rename_i e; cases hb; subst e
          exact pe_callB ok (C.gl hg) (C.b _ hB) (by decide +kernel) ha b3 b1 (star_each hs) hpl
        · split at hb
          · rename_i e; cases hb; subst e
            exact pe_callTy ok (C.gl hg) (C.b _ hB) (by decide +kernel) ha b3 b1 (star_each hs) hpl
          · split at hb
            · rename_i e; cases hb; subst e
              exact pe_callTy ok (C.gl hg) (C.b _ hB) (by decide +kernel) ha b3 b1 (star_each hs) hpl
            · split at hb
              · rename_i e; cases hb; subst e
                exact pe_callTy ok (C.gl hg) (C.b _ hB) (by decide +kernel) ha b3 b1 (star_each hs) hpl
              · cases hb
theorem range_ok {X : Cx} {c : CC} (C : Ctx X c cf) {e a : Expr} {t : TE} (h : isRange c e = some a) (ha : PE X a t) : PRg X e (tRg1 t) ∧ isStar e = false := by
  unfold isRange at h
  split at h
  · rename_i f p a' q
    split at h
    · rename_i hc
      simp only [Bool.and_eq_true, Bool.not_eq_true', decide_eq_true_eq] at hc
      cases h
      obtain ⟨⟨e1, e2⟩, e3⟩ := hc
      subst e1
      obtain ⟨hg, hB⟩ := bi_isBi e2
      exact ⟨prg_1 (C.gl hg) (C.b _ hB) ha (star_each e3), rfl⟩
    · cases h
  · cases h
end Ev

set_option Elab.async false
set_option linter.all false
set_option maxRecDepth 100000
set_option maxHeartbeats 4000000
namespace Ev
open PySem PySem.Spec PySem.W PyProof.Rows L2

section
variable {K : PySem.W.Frag} {cf : CallF}
theorem datL_dpS {m : Nat → Addr} {S : Store} {H : Hp} (sim : Sim K m S H) (n : Nat) : ∀ (ds : List D) (vs : List V) (ps : List PyData), datL n S ds = some ps → DenL K m S.length H ds vs → DpS K H vs ps
  | [], vs, ps, e, h => by
    simp only [datL] at e
    cases e
    simp only [DenL] at h
    subst h
    simp only [DpS]
  | d :: ds, vs, ps, e, h => by
    simp only [datL] at e
    simp only [DenL] at h
    obtain ⟨v, r, rfl, h1, h2⟩ := h
    split at e
    · rename_i x xs e1 e2
      cases e
      simp only [DpS]
      exact ⟨x, xs, rfl, dat_dp sim n d v x e1 h1, datL_dpS sim n ds r xs e2 h2⟩
    · cases e
theorem denL_map {α : Type} {m : Nat → Addr} {L : Nat} {H : Hp} {f : α → D} {g : α → V} : ∀ {T : List α}, (∀ t, t ∈ T → Den K m L H (f t) (g t)) → DenL K m L H (T.map f) (T.map g)
  | [], _ => DenL.nil
  | t :: T, h => DenL.cons (h t List.mem_cons_self) (denL_map fun u hu => h u (List.mem_cons_of_mem _ hu))
theorem den_of_zip {m : Nat → Addr} {L : Nat} {H : Hp} : ∀ {ds : List D} {vs : List V}, DenL K m L H ds vs → ∀ p, p ∈ ds.zip vs → Den K m L H p.1 p.2
  | [], vs, h, p, hp => by simp at hp
  | d :: ds, vs, h, p, hp => by
    simp only [DenL] at h
    obtain ⟨v, r, rfl, h1, h2⟩ := h
    rw [List.zip_cons_cons] at hp
    rcases List.mem_cons.mp hp with rfl | hp
    · exact h1
    · exact den_of_zip h2 p hp
theorem ord_den {m : Nat → Addr} {L : Nat} {H : Hp} {ds : List D} {vs : List V} {kds : List PyData} (h : DenL K m L H ds vs) (hk : ds.length = kds.length) : DenL K m L H (ordK ds kds) (ordK vs kds) := by
  have hl := h.len
  have e1 : ds.zip kds = ((ds.zip vs).zip kds).map fun t => (t.1.1, t.2) := by
    have : ds = (ds.zip vs).map (·.1) := by rw [List.map_fst_zip]; omega
    conv => lhs; rw [this]
    rw [List.zip_map_left]
    rfl
  have e2 : vs.zip kds = ((ds.zip vs).zip kds).map fun t => (t.1.2, t.2) := by
    have : vs = (ds.zip vs).map (·.2) := by rw [List.map_snd_zip]; omega
    conv => lhs; rw [this]
    rw [List.zip_map_left]
    rfl
  have f1 : ordK ds kds = (((ds.zip vs).zip kds).mergeSort (PySem.W.dataLe false (·.2))).map fun t => t.1.1 := by
    show ((ds.zip kds).mergeSort _).map _ = _
    rw [e1, ← List.map_mergeSort (r := PySem.W.dataLe false fun t : (D × V) × PyData => t.2) (s := PySem.W.dataLe false fun x : D × PyData => x.2) (f := fun t : (D × V) × PyData => (t.1.1, t.2)) (fun a _ b _ => rfl), List.map_map]
    rfl
  have f2 : ordK vs kds = (((ds.zip vs).zip kds).mergeSort (PySem.W.dataLe false (·.2))).map fun t => t.1.2 := by
    show ((vs.zip kds).mergeSort _).map _ = _
    rw [e2, ← List.map_mergeSort (r := PySem.W.dataLe false fun t : (D × V) × PyData => t.2) (s := PySem.W.dataLe false fun x : V × PyData => x.2) (f := fun t : (D × V) × PyData => (t.1.2, t.2)) (fun a _ b _ => rfl), List.map_map]
    rfl
  rw [f1, f2]
  refine denL_map fun t ht => den_of_zip h t.1 ?_
  have := (List.mergeSort_perm _ _).mem_iff.mp ht
  exact (List.of_mem_zip this).1
theorem keysD_len {call : List D → Store → R} : ∀ {xs : List D} {S S2 : Store} {ks : List D}, keysD call xs S = some (ks, S2) → ks.length = xs.length
  | [], S, S2, ks, h => by cases h; rfl
  | d :: ds, S, S2, ks, h => by
    simp only [keysD] at h
    split at h
    · cases h
    · split at h
      · cases h
      · rename_i h2
        cases h
        rw [List.length_cons, List.length_cons, keysD_len h2]
theorem keys_good {i : Nat} {R : List V → Hp → Prop} {S2 : Store} : ∀ {xs : List D} {vs done : List V} {dn ks : List D} {m : Nat → Addr} {S : Store} {H : Hp}, Sim K m S H → DenL K m S.length H xs vs → DenL K m S.length H dn done → keysD (cf i) xs S = some (ks, S2) →
    (∀ H' m' us, Go K m S H m' S2 H' → DenL K m' S2.length H' (dn ++ ks) us → R us H') → keysR (SpF K cf i 1) vs done H R
  | [], vs, done, dn, ks, m, S, H, sim, hx, hd, e, k => by
    simp only [DenL] at hx
    subst hx
    cases e
    exact k H m done (Go.refl sim) (by rw [List.append_nil]; exact hd)
  | d :: ds, vs, done, dn, ks, m, S, H, sim, hx, hd, e, k => by
    simp only [DenL] at hx
    obtain ⟨v, r, rfl, h1, h2⟩ := hx
    simp only [keysD] at e
    split at e
    · cases e
    · rename_i y S1 e1
      split at e
      · cases e
      · rename_i ys S3 e2
        cases e
        refine ⟨rfl, m, S, [d], y, S1, sim, DenL.cons h1 DenL.nil, e1, fun u H1 m1 g1 hu => ?_⟩
        refine keys_good (dn := dn ++ [y]) g1.sim (g1.denL h2) ((g1.denL hd).app (DenL.cons hu DenL.nil)) e2 fun H' m' us g hus => k H' m' us (g1.trans g) ?_
        rw [List.append_assoc] at hus
        exact hus
theorem lst_sq {m : Nat → Addr} {S : Store} {H : Hp} (sim : Sim K m S H) {d : D} {v : V} {xs : List D} (h : Den K m S.length H d v) (e : lstOf S d = some xs) : ∃ a vs, v = .ref a ∧ SqL K H a vs ∧ DenL K m S.length H xs vs := by
  cases d with
  | ref n =>
    obtain ⟨a1, a2⟩ := h.ref_inv
    obtain ⟨us, h1, h2⟩ := sim.cell n xs e
    exact ⟨m n, us, a1, SqL.of h1, h2⟩
  | frz ys =>
    cases e
    obtain ⟨a, vs, rfl, h1, h2⟩ := h.frz_inv
    exact ⟨a, vs, rfl, h1.sq, h2⟩
  | _ => cases e
theorem tr_sortK {i : Nat} {fa : Addr} {fe : Env → Store → R} {s : L2.St} {H : Hp} {Q : VK} (h : TR K (fun r S => (fe r S).bind fun p => sortR (cf i) p.1 p.2) s H Q) : tCKw (rSortK K fa (SpF K cf i 1)) (tCons (TR K fe) tNil) (tCons (tC (.ref fa)) tNil) s H Q := by
  obtain ⟨m, S, ρ, d, S', sim, env, e, k⟩ := h
  obtain ⟨⟨dx, S1⟩, e1, e⟩ := bnd e
  refine ⟨m, S, ρ, dx, S1, sim, env, e1, fun x H1 m1 g1 hx => ?_⟩
  dsimp only at e
  unfold sortR at e
  split at e
  · cases e
  · rename_i xs h1
    split at e
    · cases e
    · rename_i ks S2 h2
      split at e
      · cases e
      · rename_i kds h3
        split at e
        · rename_i hc
          cases e
          obtain ⟨a, vs, rfl, h4, h5⟩ := lst_sq g1.sim hx h1
          refine ⟨a, vs, rfl, rfl, h4, keys_good (dn := []) g1.sim h5 DenL.nil h2 fun H' m' us g hus => ?_⟩
          refine ⟨kds, datL_dpS g.sim 8 _ us kds h3 hus, hc.1, hc.2.1, hc.2.2, fun p hp => ?_⟩
          have hlk : xs.length = kds.length := by
            have z1 := keysD_len h2
            have z2 := dpS_len (datL_dpS g.sim 8 _ us kds h3 hus)
            have z3 := hus.len
            rw [List.nil_append] at z3
            omega
          obtain ⟨w1, w2⟩ := Go.lst (ds := ordK xs kds) (vs := ordK vs kds) g.sim hp (ord_den (g.denL h5) hlk)
          exact k _ _ _ ((g1.trans g).trans w1) w2
        · cases e
end
end Ev

set_option Elab.async false
set_option linter.all false
set_option maxRecDepth 100000
set_option maxHeartbeats 16000000
namespace Ev
open PySem PySem.Spec PyProof.Rows L2
variable {cf : CallF}
theorem star_back {env : PySem.Env} {pos : Pos} {e : Expr} {es : List Expr} (h : isStar e = false) : backTo pos (starEach (e :: es) env) = (false, eval e env) :: backTo pos (starEach es env) := by
  rw [star_each h]
  rfl

theorem kw_all {env : PySem.Env} {pos : Pos} : ∀ {kws : List Keyword} {ks : List Str}, kwNames kws = some ks → (backToKw pos (keywordEach kws env)).all (·.1.isSome) = true ∧ (backToKw pos (keywordEach kws env)).filterMap (·.1) = ks ∧ (backToKw pos (keywordEach kws env)).any (·.1.isNone) = false ∧ ks.length = kws.length
  | [], ks, h => by cases h; exact ⟨rfl, rfl, rfl, rfl⟩
  | ⟨nm, v, p⟩ :: kws, ks, h => by
    cases nm with
    | none => cases h
    | some x =>
      obtain ⟨r, h1, h2⟩ := mp1 (show (kwNames kws).map (x :: ·) = some ks from h)
      subst h2
      obtain ⟨a1, a2, a3, a4⟩ := kw_all (env := env) (pos := pos) h1
      refine ⟨?_, ?_, ?_, ?_⟩
      · show ((some x, _) :: backToKw pos (keywordEach kws env)).all (·.1.isSome) = true
        rw [List.all_cons, a1]; rfl
      · show ((some x, _) :: backToKw pos (keywordEach kws env)).filterMap (·.1) = x :: r
        rw [List.filterMap_cons, a2]
      · show ((some x, _) :: backToKw pos (keywordEach kws env)).any (·.1.isNone) = false
        rw [List.any_cons, a3]; rfl
      · simp [a4]
theorem st_const {X : Cx} {k : Const} {d : D} {j : Nat} {p : Pos} (h : cConst k = some d) : PE X (.Constant k j p) (TR X.K (evE cf (.cst d))) := by
  cases k with
  | int i => cases h; exact PE.mn pe_int fun s H Q q => by simp only [evE] at q; exact tr_cst rfl q
  | str i => cases h; exact PE.mn pe_str fun s H Q q => by simp only [evE] at q; exact tr_cst rfl q
  | bool i => cases h; exact PE.mn pe_bl fun s H Q q => by simp only [evE] at q; exact tr_cst rfl q
  | none => cases h; exact PE.mn pe_non fun s H Q q => by simp only [evE] at q; exact tr_cst rfl q
  | _ => cases h
theorem cop_eq {op : Operator} {o : Op2} (h : cOp op = some o) : op = oper o := by
  cases op <;> first
    | (cases h; rfl)
    | cases h
theorem ci_set {c : CC} {tg e : Expr} {j : Itr} : ∀ {n : Nat}, cI n c tg e = some j → isSetD e = false
  | 0, h => by unfold cI at h; cases h
  | n + 1, h => by
    unfold cI at h
    split at h
    · cases h
    · rename_i hs
      simpa using hs
theorem mem_all {l : List Nat} {own : List Nat} (h : l.all (fun i => decide (i ∈ own)) = true) : ∀ i ∈ l, i ∈ own := fun i hi => of_decide_eq_true (List.all_eq_true.mp h i hi)
theorem st_comp1 {n : Nat} (ih : IH n cf) {X : Cx} {c : CC} (C : Ctx X c cf) {el tg it : Expr} {ifs : List Expr} {sc : Scope} {t : Tg} {i : Itr} {x : Tx} {y : Ex} (hb : blkC c.N c.sc sc (ownOf c.N sc) = true) (h1 : cTg (inBlk c sc) tg = some t) (h2 : cI n c tg it = some i)
    (h3 : cIf n (inBlk c sc) ifs = some x) (h4 : cE n (inBlk c sc) el = some y) :
    PI X tg it (TRI X.K (evI cf i)) ∧ isSetD it = false ∧ BlkOk X.N X.env.scope sc (ownOf c.N sc) ∧
    (∀ (s : Shared) (H : Hp) (Cl : Addr) (cl : List (Str × Addr)) (fp : List Addr), PG (X.blk s H sc (compEnvC sc cl Cl X.env) fp) tg (gT X.K t)) ∧
    (∀ (s : Shared) (H : Hp) (Cl : Addr) (cl : List (Str × Addr)) (fp : List Addr), PTs (X.blk s H sc (compEnvC sc cl Cl X.env) fp) ifs (TRB X.K (evB cf x))) ∧
    (∀ (s : Shared) (H : Hp) (Cl : Addr) (cl : List (Str × Addr)) (fp : List Addr), PE (X.blk s H sc (compEnvC sc cl Cl X.env) fp) el (TR X.K (evE cf y))) := by
  obtain ⟨g1, g2⟩ := ih.i X c tg it i C h2
  refine ⟨g1, g2, by rw [C.N, C.sc]; exact blkOk_by hb, fun s H Cl cl fp => (C.blk sc s H Cl cl fp).tg h1, fun s H Cl cl fp => ih.f _ _ ifs x (C.blk sc s H Cl cl fp) h3, fun s H Cl cl fp => ih.e _ _ el y (C.blk sc s H Cl cl fp) h4⟩
theorem st_e {n : Nat} (ih : IH n cf) (X : Cx) (c : CC) (e : Expr) (i : Ex) (C : Ctx X c cf) (h : cE (n + 1) c e = some i) : PE X e (TR X.K (evE cf i)) := by
  unfold cE at h
  split at h
  · -- a name
    obtain ⟨x, h1, h2⟩ := mp1 h
    subst h2
    exact PE.mn (C.var h1) fun s H Q q => by simp only [evE] at q; exact tr_var q
  · obtain ⟨x, h1, h2⟩ := mp1 h
    subst h2
    exact st_const h1
  · -- a op b
    split at h
    · rename_i o x y h1 h2 h3
      cases h
      obtain rfl := cop_eq h1
      exact PE.mn (pe_op (op_ok o) (ih.e X c _ x C h2) (ih.e X c _ y C h3)) fun s H Q q => by simp only [evE] at q; exact tr_bin (op_good o) q
    · cases h
  · obtain ⟨x, h1, h2⟩ := mp1 h
    subst h2
    exact PE.mn (pe_un un_neg (ih.e X c _ x C h1)) fun s H Q q => by simp only [evE] at q; exact tr_neg q
  · obtain ⟨x, h1, h2⟩ := mp1 h
    subst h2
    exact PE.mn (pe_not (ih.e X c _ x C h1)) fun s H Q q => by simp only [evE] at q; exact tr_not q
  · split at h
    · rename_i o x y h1 h2 h3
      split at h
      · cases h
      · rename_i hs
        cases h
        exact (st_cmp ih C h1 h2 h3 (by simpa using hs)).2
    · cases h
  · exact pe_one (ih.e X c _ i C h)
  · exact pe_one (ih.e X c _ i C h)
  · split at h
    · rename_i x y h1 h2
      cases h
      exact PE.mn (pe_and (ih.e X c _ x C h1) (ih.e X c _ y C h2)) fun s H Q q => by simp only [evE] at q; exact tr_and q
    · cases h
  · split at h
    · rename_i x y h1 h2
      cases h
      exact PE.mn (pe_or (ih.e X c _ x C h1) (ih.e X c _ y C h2)) fun s H Q q => by simp only [evE] at q; exact tr_or q
    · cases h
  · split at h
    · rename_i z x y h1 h2 h3
      cases h
      exact PE.mn (pe_ifExp (ih.t X c _ z C h1) (ih.e X c _ x C h2) (ih.e X c _ y C h3)) fun s H Q q => by simp only [evE] at q; exact tr_ite q
    · cases h
  · obtain ⟨l, h1, h2⟩ := mp1 h
    subst h2
    exact PE.mn (pe_tup (ih.l X c _ l C h1).1) fun s H Q q => by simp only [evE] at q; exact tr_tup q
  · obtain ⟨l, h1, h2⟩ := mp1 h
    subst h2
    exact PE.mn (pe_lst (ih.l X c _ l C h1).1) fun s H Q q => by simp only [evE] at q; exact tr_lst q
  · split at h
    · rename_i x y z h1 h2 h3
      cases h
      exact PE.mn (pe_slice (SlR.or sl_tup sl_list) (ih.e X c _ x C h1) (ih.o X c _ y C h2) (ih.o X c _ z C h3)) fun s H Q q => by simp only [evE] at q; exact tr_sli q
    · cases h
  · split at h
    · cases h
    · rename_i hs
      split at h
      · rename_i x y h1 h2
        cases h
        exact PE.mn (pe_ix ix_seq (ih.e X c _ x C h1) (ih.e X c _ y C h2) (plain_ix (by simpa using hs))) fun s H Q q => by simp only [evE] at q; exact tr_bin ix_good q
      · cases h
  · -- a call without keywords
    rename_i f p es q
    split at h
    · rename_i j np hf
      split at h
      · rename_i hc
        simp only [Bool.and_eq_true, decide_eq_true_eq] at hc
        obtain ⟨l, h1, h2⟩ := mp1 h
        subst h2
        obtain ⟨a, fd, ps, k, m1, m2, m3, m4, m5, m6, _⟩ := C.f f j np hf
        have m4 := m4.mono (Nat.le_add_right k 2)
        obtain ⟨b1, _, _⟩ := bad_no (gl_ok hc.1).2
        have hx : Passes CX0 X E0 := pass0
        cases es with
        | nil =>
          have hl : l = .nil := by
            cases n with
            | zero => unfold cL at h1; cases h1
            | succ n => simp only [cL] at h1; cases h1; rfl
          subst hl
          exact PE.mn (pe_callG0 (E := E0) m5 m4 C.gd (C.gl hc.1) m1 m2 m3 hx b1) fun s H Q q => by simp only [evE] at q; exact tr_call0 m6 q
        | cons e es =>
          obtain ⟨pa, st⟩ := ih.l X c _ l C h1
          exact PE.mn (pe_callG (E := E0) m5 m4 C.gd (C.gl hc.1) m1 m2 m3 hx pa b1 (star_each (st e List.mem_cons_self)) (back_any fun x hx => st x (List.mem_cons_of_mem _ hx))) fun s H Q q => by simp only [evE] at q; exact tr_call m6 q
      · cases h
    · split at h
      · rename_i a
        split at h
        · rename_i hb
          split at h
          · rename_i r hr
            split at h
            · rename_i hi
              obtain ⟨x, h1, h2⟩ := mp1 h
              subst h2
              obtain ⟨pr, hs⟩ := range_ok C hr (ih.e X c _ x C h1)
              obtain ⟨hg, hB⟩ := bi_isBi hi
              have hf : f = ("list" : Str) := by
                unfold biOf at hb
                repeat' split at hb
                all_goals first | assumption | cases hb
              subst hf
              exact PE.mn (pe_listRg C.calm (C.gl hg) (C.b _ hB) pr (star_each hs)) fun s H Q q => by simp only [evE] at q; exact tr_listRng q
            · cases h
          · split at h
            · rename_i hi
              obtain ⟨l, h1, h2⟩ := mp1 h
              subst h2
              obtain ⟨pa, st⟩ := ih.l X c _ l C h1
              exact PE.mn (pe_bi C hb hi pa (st _ List.mem_cons_self)) fun s H Q q => by simp only [evE] at q; exact tr_bi _ q
            · cases h
        · rename_i hb
          split at h
          · rename_i r hr
            split at h
            · rename_i hi
              obtain ⟨x, h1, h2⟩ := mp1 h
              subst h2
              obtain ⟨pr, hs⟩ := range_ok C hr (ih.e X c _ x C h1)
              obtain ⟨hg, hB⟩ := bi_isBi hi
              have hf : f = ("tuple" : Str) := by
                unfold biOf at hb
                repeat' split at hb
                all_goals first | assumption | cases hb
              subst hf
              exact PE.mn (pe_tupRg C.calm (C.gl hg) (C.b _ hB) pr (star_each hs)) fun s H Q q => by simp only [evE] at q; exact tr_tupRng q
            · cases h
          · split at h
            · rename_i hi
              obtain ⟨l, h1, h2⟩ := mp1 h
              subst h2
              obtain ⟨pa, st⟩ := ih.l X c _ l C h1
              exact PE.mn (pe_bi C hb hi pa (st _ List.mem_cons_self)) fun s H Q q => by simp only [evE] at q; exact tr_bi _ q
            · cases h
        · rename_i bq _ _ hbq
          split at h
          · rename_i hi
            obtain ⟨l, h1, h2⟩ := mp1 h
            subst h2
            obtain ⟨pa, st⟩ := ih.l X c _ l C h1
            exact PE.mn (pe_bi C hbq hi pa (st _ List.mem_cons_self)) fun s H Q q => by simp only [evE] at q; exact tr_bi _ q
          · cases h
        · cases h
      · cases h
  · -- a call with keywords
    rename_i f p es kws q _
    split at h
    · rename_i j np ks hf hk
      split at h
      · rename_i qq hfind
        split at h
        · rename_i hg
          split at h
          · rename_i l l2 h1 h2
            cases h
            have hm := List.mem_of_find?_eq_some hfind
            have hq := List.find?_some hfind
            simp only [decide_eq_true_eq] at hq
            obtain ⟨q1, q2, q3⟩ := hq
            obtain ⟨a, fd, ps, k, m1, m2, m3, m4, m5, m6, m7⟩ := C.f f j np hf
            have m4 := m4.mono (Nat.le_add_right k 2)
            have kb := m7 qq.2.1 qq.2.2.1 qq.2.2.2 (by rw [← q1]; exact hm)
            obtain ⟨b1, _, _⟩ := bad_no (gl_ok hg).2
            have hx : Passes CX0 X E0 := pass0
            obtain ⟨w1, w2, w3, w4⟩ := kw_all (env := X.env) (pos := q) hk
            have hl2 : lenX l2 = ks.length := by rw [cL_len h2, List.length_map, w4]
            have hl1 := cL_len h1
            rw [q2, q3] at kb
            have pk := ih.k X c kws l2 C h2
            cases es with
            | nil =>
              have hl : l = .nil := by
                cases n with
                | zero => unfold cL at h1; cases h1
                | succ n => simp only [cL] at h1; cases h1; rfl
              subst hl
              refine PE.mn (pe_callGK0 (E := E0) m5 m4 C.gd (C.gl hg) m1 m2 kb hx pk w1 w2 b1 (by rw [w3]; rfl)) fun s H Q q => ?_
              simp only [evE] at q
              have := tr_callP0 (E := E0) m6 q
              rw [hl2] at this
              exact this
            | cons e es =>
              obtain ⟨pa, st⟩ := ih.l X c _ l C h1
              have hpl : ((backTo q (starEach (e :: es) X.env)).any (·.1) || (backToKw q (keywordEach kws X.env)).any (·.1.isNone)) = false := by
                rw [w3, back_any st]; rfl
              refine PE.mn (pe_callGK (E := E0) m5 m4 C.gd (C.gl hg) m1 m2 kb hx pa pk w1 w2 b1 (star_each (st e List.mem_cons_self)) hpl) fun s H Q q => ?_
              simp only [evE] at q
              have := tr_callP (E := E0) m6 hl1 q
              rw [hl2] at this
              exact this
          · cases h
        · cases h
      · cases h
    · -- sorted by a def of ours
      split at h
      · rename_i a kn gx gp kp _ _
        split at h
        · rename_i hf
          split at h
          · rename_i hkn
            split at h
            · rename_i hc
              subst hf
              subst hkn
              simp only [Bool.and_eq_true, Bool.not_eq_true'] at hc
              obtain ⟨⟨hb, hg⟩, ha⟩ := hc
              split at h
              · rename_i j x h1 h2
                cases h
                obtain ⟨fa, fd, ps, k, m1, m2, m3, m4, m5, m6, m7⟩ := C.f gx j 1 h1
                obtain ⟨hbg, hB⟩ := bi_isBi hb
                obtain ⟨b1, _, _⟩ := bad_no (gl_ok hg).2
                have cr := cr_sortK m5 m4 C.gd m3
                have pk : PK X [⟨some ("key" : Str), .Name gx gp, kp⟩] (tCons (tC (.ref fa)) tNil) := pk_cons (pe_glob (C.gl hg) m1 rfl b1) pk_nil
                have pa := pa1 (ih.e X c a x C h2) ha
                refine PE.mn (pe_callBK cr (C.gl hbg) (C.b _ hB) (by decide +kernel) pa pk (by decide) (by decide) (star_back ha) (back_any fun e he => by rw [List.mem_singleton.mp he]; exact ha) (by rfl) (by rfl) (by rfl)) fun s H Q q => ?_
                simp only [evE] at q
                exact tr_sortK q
              · cases h
            · cases h
          · cases h
        · cases h
      · cases h
    · cases h
  · -- a method
    rename_i o mn ap es p
    split at h
    · rename_i hc
      simp only [Bool.and_eq_true] at hc
      split at h
      · rename_i hm
        subst hm
        split at h
        · obtain ⟨x, h1, h2⟩ := mp1 h
          subst h2
          exact PE.mn (pe_bits (ih.e X c _ x C h1) (base_ok hc.2 _ _ _) hc.1) fun s H Q q => by simp only [evE] at q; exact tr_bits q
        · cases h
      · split at h
        · rename_i k x l h1 h2 h3
          cases h
          have po := ih.e X c _ x C h2
          obtain ⟨pa, st⟩ := ih.l X c _ l C h3
          have one : ∀ a, es = [a] → ((backTo p (starEach es X.env)).all (fun x => !x.1) && (backToKw p (keywordEach [] X.env)).all (fun x => x.1.isSome)
              && decide (es.length + ([] : List Keyword).length + (if ([] : List Keyword).isEmpty then 0 else 1) < 30)) = true := fun a e => by
            subst e
            rw [star1 (st a List.mem_cons_self)]
            rfl
          unfold mtOf at h1
          split at h1
          · rename_i e1
            subst e1
            split at h1
            · rename_i hl
              cases h1
              obtain ⟨a, rfl⟩ := List.length_eq_one_iff.mp hl
              exact PE.mn (pe_bm PySem.F.plainAttrs_list PySem.F.slot_list_append PySem.F.type_list_append mt_append po pa (base_ok hc.2 _ _ _) (one a rfl) hc.1 (star_each (st a List.mem_cons_self)) rfl) fun s H Q q => by simp only [evE] at q; exact tr_mt .append q
            · cases h1
          · split at h1
            · rename_i e1
              subst e1
              split at h1
              · rename_i hl
                cases h1
                obtain ⟨a, rfl⟩ := List.length_eq_one_iff.mp hl
                exact PE.mn (pe_bm PySem.F.plainAttrs_list PySem.F.slot_list_extend PySem.F.type_list_extend mt_extend po pa (base_ok hc.2 _ _ _) (one a rfl) hc.1 (star_each (st a List.mem_cons_self)) rfl) fun s H Q q => by simp only [evE] at q; exact tr_mt .extend q
              · cases h1
            · split at h1
              · rename_i e1
                subst e1
                split at h1
                · rename_i hl
                  cases h1
                  have := List.length_eq_zero_iff.mp hl
                  subst this
                  have hl : l = .nil := by
                    cases n with
                    | zero => unfold cL at h3; cases h3
                    | succ n => simp only [cL] at h3; cases h3; rfl
                  subst hl
                  exact PE.mn (pe_bm0 PySem.F.plainAttrs_list PySem.F.slot_list_pop PySem.F.type_list_pop mt_pop po (base_ok hc.2 _ _ _) hc.1) fun s H Q q => by simp only [evE] at q; exact tr_mt0 .pop q
                · split at h1
                  · rename_i hl
                    cases h1
                    obtain ⟨a, rfl⟩ := List.length_eq_one_iff.mp hl
                    exact PE.mn (pe_bm PySem.F.plainAttrs_list PySem.F.slot_list_pop PySem.F.type_list_pop mt_popAt po pa (base_ok hc.2 _ _ _) (one a rfl) hc.1 (star_each (st a List.mem_cons_self)) rfl) fun s H Q q => by simp only [evE] at q; exact tr_mt .popAt q
                  · cases h1
              · cases h1
        · cases h
    · cases h
  · -- a comprehension
    split at h
    · rename_i hb
      split at h
      · rename_i t j x y h1 h2 h3 h4
        split at h
        · rename_i hs
          cases h
          obtain ⟨g1, g2, g3, g4, g5, g6⟩ := st_comp1 ih C hb h1 h2 h3 h4
          exact PE.mn (pe_lc C.calm (by rw [C.N]; exact C.nd) g1 g3 g4 g5 g6 (fold_no g2 X.env)) fun s H Q q => by simp only [evE] at q; exact tr_comp1 (mem_all hs) q
        · cases h
      · cases h
    · cases h
  · split at h
    · rename_i hb
      split at h
      · rename_i t j x t1 j1 x1 y h1 h2 h3 h4 h5 h6 h7
        split at h
        · rename_i hs
          cases h
          simp only [Bool.and_eq_true] at hs
          obtain ⟨⟨s1, s2⟩, s3⟩ := hs
          obtain ⟨g1, g2, g3, g4, g5, g6⟩ := st_comp1 ih C hb h1 h2 h3 h7
          exact PE.mn (pe_lc2 C.calm (by rw [C.N]; exact C.nd) g1 g3 (mem_all s3) g4 g5 (fun s H Cl cl fp => (ih.i _ _ _ _ j1 (C.blk _ s H Cl cl fp) h5).1) (fun s H Cl cl fp => (C.blk _ s H Cl cl fp).tg h4) (fun s H Cl cl fp => ih.f _ _ _ x1 (C.blk _ s H Cl cl fp) h6) g6 (fold_no g2 X.env)
            (fun env x => fold_no (ci_set h5) env x)) fun s H Q q => by simp only [evE] at q; exact tr_comp2 (mem_all s1) (mem_all s2) q
        · cases h
      · cases h
    · cases h
  · cases h
end Ev

set_option Elab.async false
set_option linter.all false
set_option maxRecDepth 100000
set_option maxHeartbeats 16000000
namespace Ev
open PySem PySem.Spec PyProof.Rows L2
variable {cf : CallF}

def okPar (vs : List Expr) : Bool := (vs.all (foldedForSure 8) || !(vs.all (constantsAlone 8))) && vs.all fun e => !isStar e
mutual
def cS : Nat → CC → Stmt → Option Sx
  | 0, _, _ => none
  | n + 1, c, s => match s with
    | .Return (some e) _ => (cE n c e).map .ret
    | .Return none _ => some .retN
    | .Assign [.Name x _] v _ => match lkW c x, cE n c v with
      | some i, some y => some (.set (.nm i) y)
      | _, _ => none
    | .Assign [.Tuple [.Name x _, .Name y _] _ _] (.Tuple [a, b] _ _) _ => match lkW c x, lkW c y, cL n c [a, b] with
      | some i, some j, some l => if okPar [a, b] then some (.par [i, j] l) else none
      | _, _, _ => none
    | .Assign [.Tuple [.Name x _, .Name y _, .Name z _] _ _] (.Tuple [a, b, d] _ _) _ => match lkW c x, lkW c y, lkW c z, cL n c [a, b, d] with
      | some i, some j, some k, some l => if okPar [a, b, d] then some (.par [i, j, k] l) else none
      | _, _, _, _ => none
    | .Assign [.Tuple ts k p] v _ => if isTupD v || isCompr v then none else match cTg c (.Tuple ts k p), cE n c v with
      | some t, some y => some (.set t y)
      | _, _ => none
    | .Assign [.Subscript o i _] v _ => if isSli i then none else match cE n c o, cE n c i, cE n c v with
      | some x, some y, some z => some (.seti x y z)
      | _, _, _ => none
    | .AugAssign (.Name x _) op e _ => match lkW c x, cE n c e, op with
      | some i, some y, .Add => some (.aug i .add y)
      | some i, some y, .Sub => some (.aug i .sub y)
      | _, _, _ => none
    | .Expr (.Constant (.str _) _ _) _ => some .pass
    | .Expr e _ => if isCompr e then none else (cE n c e).map .expr
    | .If t a b _ => match cT n c t, cSs n c a, cSs n c b with
      | some x, some y, some z => some (.iff x y z)
      | _, _, _ => none
    | .For tg it b [] _ => match cTg c tg, cI n c tg it, cSs n c b with
      | some t, some i, some y => some (.for t i y)
      | _, _, _ => none
    | .While t b [] _ => match cT n c t, cSs n c b with
      | some x, some y => some (.whl 1000000 x y)
      | _, _ => none
    | .Break _ => some .brk
    | .Continue _ => some .cont
    | .Pass _ => some .pass
    | _ => none
def cSs : Nat → CC → List Stmt → Option Sxs
  | 0, _, _ => none
  | _ + 1, _, [] => some .nil
  | n + 1, c, s :: ss => match cS n c s, cSs n c ss with
    | some x, some y => some (.cons x y)
    | _, _ => none
end

theorem sw_comp {el : Expr} {gens : List Comprehension} {scope : Scope} {pos : Pos} {t : Str} {p : Pos} {line : Nat} {env : PySem.Env} :
    swapsWith (.ListComp el gens scope pos) (some (.Name t p)) line env = pure (env.blockKind == .function && env.kindOf t == some .local && p.line == pos.line && !(scope.names.any fun (n, k) => n == t && (k == .local || k == .cell))) := rfl
/-- the names that are stored straight -/
def strNames (env : PySem.Env) (line : Nat) (ts : List Expr) : List Str := ts.filterMap fun
  | .Name id pos => if env.kindOf id == some .local && pos.line == line then some id else none
  | _ => none
theorem sw_gen {ts vs : List Expr} {kt k2 : Nat} {pt pt2 : Pos} {env : PySem.Env} (h : okPar vs = true) :
    swappedStores [.Tuple ts kt pt] (.Tuple vs k2 pt2) env = pure none ∨
    (swappedStores [.Tuple ts kt pt] (.Tuple vs k2 pt2) env = pure (some (strNames env ((ts.head?.map (·.pos.line)).getD 0) ts)) ∧ (strNames env ((ts.head?.map (·.pos.line)).getD 0) ts).length = ts.length ∧ (strNames env ((ts.head?.map (·.pos.line)).getD 0) ts).eraseDups.length = (strNames env ((ts.head?.map (·.pos.line)).getD 0) ts).length) := by
  unfold okPar at h
  simp only [Bool.and_eq_true] at h
  obtain ⟨h1, h2⟩ := h
  have e : ts.filterMap (fun x_1 => match x_1 with
      | Expr.Name id pos => if (env.kindOf id == some NameKind.local && pos.line == (Option.map (fun x => x.pos.line) ts.head?).getD 0) = true then some id else none
      | x => none) = strNames env ((ts.head?.map (·.pos.line)).getD 0) ts := rfl
  unfold swappedStores
  dsimp only
  split
  · exact .inl rfl
  · split
    · exact .inl rfl
    · split
      · exact .inl rfl
      · rename_i h5
        split
        · exact .inl rfl
        · rename_i h6
          split
          · rename_i h7
            exfalso
            have h6 : vs.all (foldedForSure 8) = false := by simpa using h6
            rw [h6, h7] at h1
            exact Bool.noConfusion h1
          · refine .inr ⟨rfl, ?_⟩
            have h5' : ¬ (((strNames env ((ts.head?.map (·.pos.line)).getD 0) ts).length != ts.length || (strNames env ((ts.head?.map (·.pos.line)).getD 0) ts).eraseDups.length != (strNames env ((ts.head?.map (·.pos.line)).getD 0) ts).length) = true) := h5
            simp only [Bool.or_eq_true, bne_iff_ne, not_or, Decidable.not_not] at h5'
            exact h5'
theorem str_all {env : PySem.Env} {line : Nat} : ∀ {ts : List Expr}, (strNames env line ts).length = ts.length → ∀ e ∈ ts, ∃ x p, e = .Name x p ∧ env.kindOf x = some .local
  | [], _, e, he => nomatch he
  | t :: ts, h, e, he => by
    have hle : ∀ us : List Expr, (strNames env line us).length ≤ us.length := fun us => List.length_filterMap_le _ _
    unfold strNames at h
    rw [List.filterMap_cons] at h
    split at h
    · have := hle ts
      unfold strNames at this
      simp only [List.length_cons] at h
      omega
    · rename_i x hx
      have h' : (strNames env line ts).length = ts.length := by
        unfold strNames
        simp only [List.length_cons] at h
        omega
      rcases List.mem_cons.mp he with rfl | he
      · split at hx
        · rename_i id pos
          split at hx
          · rename_i hc
            simp only [Bool.and_eq_true, beq_iff_eq] at hc
            exact ⟨id, pos, rfl, hc.1⟩
          · cases hx
        · cases hx
      · exact str_all h' e he
theorem str_names {env : PySem.Env} {line : Nat} : ∀ {ts : List Expr} {xs : List (Str × Pos)}, ts = xs.map (fun p => .Name p.1 p.2) → (strNames env line ts).length = ts.length → strNames env line ts = xs.map (·.1)
  | _, [], rfl, _ => rfl
  | _, x :: xs, rfl, h => by
    have hle : ∀ us : List Expr, (strNames env line us).length ≤ us.length := fun us => List.length_filterMap_le _ _
    unfold strNames at h ⊢
    rw [List.map_cons, List.filterMap_cons] at h ⊢
    dsimp only at h ⊢
    by_cases hc : (env.kindOf x.1 == some NameKind.local && x.2.line == line) = true
    · rw [if_pos hc] at h ⊢
      simp only [List.length_cons] at h
      have := str_names (env := env) (line := line) (xs := xs) rfl (by unfold strNames; omega)
      unfold strNames at this
      rw [this]; rfl
    · rw [if_neg hc] at h
      have := hle (xs.map fun p => .Name p.1 p.2)
      unfold strNames at this
      simp only [List.length_cons] at h
      omega

theorem nd2 {x y : Str} (h : [x, y].eraseDups.length = [x, y].length) : x ≠ y := by
  rintro rfl
  simp [List.eraseDups_cons] at h
theorem nd3 {x y z : Str} (h : [x, y, z].eraseDups.length = [x, y, z].length) : x ≠ y ∧ x ≠ z ∧ y ≠ z := by
  refine ⟨?_, ?_, ?_⟩
  · rintro rfl
    by_cases e : x = z
    · subst e; simp [List.eraseDups_cons] at h
    · simp [List.eraseDups_cons, e, Ne.symm e] at h
  · rintro rfl
    by_cases e : x = y
    · subst e; simp [List.eraseDups_cons] at h
    · simp [List.eraseDups_cons, e, Ne.symm e] at h
  · rintro rfl
    by_cases e : x = y
    · subst e; simp [List.eraseDups_cons] at h
    · simp [List.eraseDups_cons, e, Ne.symm e] at h

section
variable {K : PySem.W.Frag}
theorem ts_parT {is : List Nat} (hz : is.length ≤ sizeLine) {fl : Env → Store → RL} {De : Ends} {s : L2.St} {H : Hp} (h : TRS K (fun r S => (fl r S).bind fun p => if is.length = p.1.length then some (.nx ((is.zip p.1).foldl (fun r p => r.set p.1 (some p.2)) r) p.2) else none) De s H) :
    tAsg (tTup (TRL K fl)) (gT K (.tp is)) De s H := by
  have h' : TRS K (fun r S => (((fl r S).bind fun p => if p.1.length ≤ sizeLine then some (D.tup p.1, p.2) else none) : R).bind fun p => (bindT (.tp is) p.1 r).map fun r1 => Fl.nx r1 p.2) De s H := by
    obtain ⟨m, S, ρ, f', sim, env, e, k⟩ := h
    refine ⟨m, S, ρ, f', sim, env, ?_, k⟩
    obtain ⟨⟨ds, S1⟩, e1, e⟩ := bnd e
    dsimp only at e ⊢
    split at e
    · rename_i hl
      cases e
      rw [e1]
      dsimp only [Option.bind]
      rw [if_pos (by rw [← hl]; exact hz)]
      dsimp only [Option.bind, bindT]
      rw [if_pos hl]
      rfl
    · cases e
  exact tr_tup_asg (ts_set (tg := .tp is) h')
where tr_tup_asg {is : List Nat} {fl : Env → Store → RL} {De : Ends} {s : L2.St} {H : Hp} (h : tAsg (TR K (fun r S => (fl r S).bind fun p => if p.1.length ≤ sizeLine then some (D.tup p.1, p.2) else none)) (gT K (.tp is)) De s H) : tAsg (tTup (TRL K fl)) (gT K (.tp is)) De s H := tr_tup h
end
theorem n_ne {N : List Str} (nd : N.Nodup) {i j : Nat} {x y : Str} (hi : N[i]? = some x) (hj : N[j]? = some y) (h : x ≠ y) : i ≠ j := by
  rintro rfl
  rw [hi] at hj
  exact h (Option.some.inj hj)

theorem ih_all : ∀ n, IH n cf
  | 0 => ih_zero
  | n + 1 => ⟨st_e (ih_all n), st_t (ih_all n), st_l (ih_all n), st_k (ih_all n), st_o (ih_all n), st_f (ih_all n), st_i (ih_all n)⟩
structure IS (n : Nat) (cf : CallF) : Prop where
  s : ∀ (X : Cx) (c : CC) (s : Stmt) (i : Sx), Ctx X c cf → cS n c s = some i → PS X s (TRS X.K (evS cf i))
  ss : ∀ (X : Cx) (c : CC) (s : List Stmt) (i : Sxs), Ctx X c cf → cSs n c s = some i → PSs X s (TRS X.K (evSs cf i))
theorem is_zero : IS 0 cf := by
  constructor <;> (intro X c; intros; rename_i h; first | (unfold cS at h; cases h) | (unfold cSs at h; cases h))
theorem st_ss {n : Nat} (is : IS n cf) (X : Cx) (c : CC) (s : List Stmt) (i : Sxs) (C : Ctx X c cf) (h : cSs (n + 1) c s = some i) : PSs X s (TRS X.K (evSs cf i)) := by
  cases s with
  | nil =>
    simp only [cSs] at h
    cases h
    exact PSs.mn pss_nil fun De s H q => by simp only [evSs] at q; exact ts_nil q
  | cons s ss =>
    simp only [cSs] at h
    split at h
    · rename_i x y h1 h2
      cases h
      exact PSs.mn (pss_cons (is.s X c s x C h1) (is.ss X c ss y C h2)) fun De s H q => by simp only [evSs] at q; exact ts_seq q
    · cases h
theorem Ctx.pass {X : Cx} {c : CC} (C : Ctx X c cf) : PassesOwn (model X.prog X.w) X.A X.env X.xe := by
  rw [C.xe]
  exact PassesOwn.never
theorem Ctx.ndX {X : Cx} {c : CC} (C : Ctx X c cf) : X.N.Nodup := by rw [C.N]; exact C.nd
/-- name = value -/
theorem st_name {n : Nat} (X : Cx) (c : CC) {x : Str} {px sp : Pos} {v : Expr} {i : Nat} {y : Ex} (C : Ctx X c cf) (h1 : lkW c x = some i) (h2 : cE n c v = some y) : PS X (.Assign [.Name x px] v sp) (TRS X.K (evS cf (.set (.nm i) y))) := by
  obtain ⟨hN, hW⟩ := lkW_ok h1
  obtain ⟨h3, h4⟩ := C.w x hW
  have hN' : X.N[i]? = some x := by rw [C.N]; exact hN
  have plain : swapsWith v (some (.Name x px)) sp.line X.env = pure false → PS X (.Assign [.Name x px] v sp) (TRS X.K (evS cf (.set (.nm i) y))) := fun hs =>
    PS.mn (ps_set C.ndX hN' h3 ((ih_all n).e X c v y C h2) hs h4) fun De s H q => by simp only [evS] at q; exact ts_set (tg := .nm i) q
  by_cases hc : isCompr v = true
  · cases v with
    | ListComp el gens sc p =>
      have e := sw_comp (el := el) (gens := gens) (scope := sc) (pos := p) (t := x) (p := px) (line := sp.line) (env := X.env)
      generalize hb : (X.env.blockKind == .function && X.env.kindOf x == some .local && px.line == p.line && !(sc.names.any fun (n, k) => n == x && (k == .local || k == .cell))) = b at e
      cases b with
      | false => exact plain e
      | true =>
        have hx : X.env.scope.names.lookup x = some .local := by
          simp only [Bool.and_eq_true, beq_iff_eq] at hb
          exact hb.1.1.2
        clear plain hb hc
        cases n with
        | zero => unfold cE at h2; cases h2
        | succ n =>
          unfold cE at h2
          split at h2
          all_goals first
            | (rename_i heq; cases heq; done)
            | skip
          · rename_i heq
            cases heq
            split at h2
            · rename_i hb
              split at h2
              · rename_i t j x' y' h1' h2' h3' h4'
                split at h2
                · rename_i hs
                  cases h2
                  obtain ⟨g1, g2, g3, g4, g5, g6⟩ := st_comp1 (ih_all n) C hb h1' h2' h3' h4'
                  exact PS.mn (ps_setLc C.calm C.ndX hN' hx e g1 g3 g4 g5 g6 (fold_no g2 X.env)) fun De s H q => by simp only [evS] at q; have q' := ts_set (tg := .nm i) q; simp only [evE] at q'; exact tr_comp1 (mem_all hs) q'
                · cases h2
              · cases h2
            · cases h2
          · rename_i heq
            cases heq
            split at h2
            · rename_i hb
              split at h2
              · rename_i t j x' t1 j1 x1 y' h1' h2' h3' h4' h5' h6' h7'
                split at h2
                · rename_i hs
                  cases h2
                  simp only [Bool.and_eq_true] at hs
                  obtain ⟨⟨s1, s2⟩, s3⟩ := hs
                  obtain ⟨g1, g2, g3, g4, g5, g6⟩ := st_comp1 (ih_all n) C hb h1' h2' h3' h7'
                  exact PS.mn (ps_setLc2 C.calm C.ndX hN' hx e g1 g3 (mem_all s3) g4 g5 (fun s H Cl cl fp => ((ih_all n).i _ _ _ _ j1 (C.blk _ s H Cl cl fp) h5').1) (fun s H Cl cl fp => (C.blk _ s H Cl cl fp).tg h4') (fun s H Cl cl fp => (ih_all n).f _ _ _ x1 (C.blk _ s H Cl cl fp) h6') g6 (fold_no g2 X.env)
                    (fun env x => fold_no (ci_set h5') env x)) fun De s H q => by simp only [evS] at q; have q' := ts_set (tg := .nm i) q; simp only [evE] at q'; exact tr_comp2 (mem_all s1) (mem_all s2) q'
                · cases h2
              · cases h2
            · cases h2
          · cases h2
    | SetComp el gens sc p => cases n with
      | zero => unfold cE at h2; cases h2
      | succ n => simp only [cE] at h2; cases h2
    | DictComp el v gens sc p => cases n with
      | zero => unfold cE at h2; cases h2
      | succ n => simp only [cE] at h2; cases h2
    | _ => cases hc
  · exact plain (not_sw (by simpa using hc) _ _ _)
end Ev

set_option Elab.async false
set_option linter.all false
set_option maxRecDepth 100000
set_option maxHeartbeats 16000000
namespace Ev
open PySem PySem.Spec PyProof.Rows L2
variable {cf : CallF}

theorem w_loc {X : Cx} {c : CC} (C : Ctx X c cf) {x : Str} {i : Nat} (h : lkW c x = some i) : X.N[i]? = some x ∧ L2.Loc X.env.scope x ∧ (X.fn x = true ∨ X.env.scope.names.lookup x = some .local) := by
  obtain ⟨hN, hW⟩ := lkW_ok h
  obtain ⟨h3, h4⟩ := C.w x hW
  exact ⟨by rw [C.N]; exact hN, h3, h4⟩
theorem tup_tg {X : Cx} {c : CC} (C : Ctx X c cf) {ts : List Expr} {is : List Nat} {k : Nat} {p : Pos} (h : cTgs c ts = some is) : PG X (.Tuple ts k p) (gT X.K (.tp is)) := by
  have : cTg c (.Tuple ts k p) = some (.tp is) := by
    show (cTgs c ts).map Tg.tp = _
    rw [h]; rfl
  exact C.tg this
theorem st_par2 {n : Nat} (X : Cx) (c : CC) {x y : Str} {px py pt pt2 sp : Pos} {kt k2 : Nat} {a b : Expr} {i j : Nat} {l : Exs} (C : Ctx X c cf) (h1 : lkW c x = some i) (h2 : lkW c y = some j) (h3 : cL n c [a, b] = some l) (hp : okPar [a, b] = true) :
    PS X (.Assign [.Tuple [.Name x px, .Name y py] kt pt] (.Tuple [a, b] k2 pt2) sp) (TRS X.K (evS cf (.par [i, j] l))) := by
  obtain ⟨pa, st⟩ := (ih_all n).l X c _ l C h3
  rcases sw_gen (ts := [.Name x px, .Name y py]) (kt := kt) (k2 := k2) (pt := pt) (pt2 := pt2) (env := X.env) hp with e | ⟨e, e2, e3⟩
  · have hg : PG X (.Tuple [.Name x px, .Name y py] kt pt) (gT X.K (.tp [i, j])) := tup_tg C (by simp only [cTgs, h1, h2])
    exact PS.mn (ps_asg (pe_tup pa) hg rfl e rfl) fun De s H q => by simp only [evS] at q; exact ts_parT (by show 2 ≤ _; rw [sizeLine_eq]; decide) q
  · have hn := str_names (env := X.env) (line := (([Expr.Name x px, .Name y py].head?.map (·.pos.line)).getD 0)) (ts := [.Name x px, .Name y py]) (xs := [(x, px), (y, py)]) rfl e2
    have hl := str_all e2
    rw [hn] at e e3
    obtain ⟨n1, l1, _⟩ := w_loc C h1
    obtain ⟨n2, l2, _⟩ := w_loc C h2
    have k1 : X.env.scope.names.lookup x = some .local := by
      obtain ⟨x', p', e', k'⟩ := hl (.Name x px) (by simp)
      cases e'; exact k'
    have k2 : X.env.scope.names.lookup y = some .local := by
      obtain ⟨x', p', e', k'⟩ := hl (.Name y py) (by simp)
      cases e'; exact k'
    exact PS.mn (ps_par C.calm C.ndX n1 n2 (n_ne C.ndX n1 n2 (nd2 e3)) k1 k2 pa e rfl) fun De s H q => by simp only [evS] at q; exact ts_par2 q
theorem st_par3 {n : Nat} (X : Cx) (c : CC) {x y z : Str} {px py pz pt pt2 sp : Pos} {kt k2 : Nat} {a b d : Expr} {i j k : Nat} {l : Exs} (C : Ctx X c cf) (h1 : lkW c x = some i) (h2 : lkW c y = some j) (h2' : lkW c z = some k) (h3 : cL n c [a, b, d] = some l) (hp : okPar [a, b, d] = true) :
    PS X (.Assign [.Tuple [.Name x px, .Name y py, .Name z pz] kt pt] (.Tuple [a, b, d] k2 pt2) sp) (TRS X.K (evS cf (.par [i, j, k] l))) := by
  obtain ⟨pa, st⟩ := (ih_all n).l X c _ l C h3
  rcases sw_gen (ts := [.Name x px, .Name y py, .Name z pz]) (kt := kt) (k2 := k2) (pt := pt) (pt2 := pt2) (env := X.env) hp with e | ⟨e, e2, e3⟩
  · have hg : PG X (.Tuple [.Name x px, .Name y py, .Name z pz] kt pt) (gT X.K (.tp [i, j, k])) := tup_tg C (by simp only [cTgs, h1, h2, h2'])
    exact PS.mn (ps_asg (pe_tup pa) hg rfl e rfl) fun De s H q => by simp only [evS] at q; exact ts_parT (by show 3 ≤ _; rw [sizeLine_eq]; decide) q
  · have hn := str_names (env := X.env) (line := (([Expr.Name x px, .Name y py, .Name z pz].head?.map (·.pos.line)).getD 0)) (ts := [.Name x px, .Name y py, .Name z pz]) (xs := [(x, px), (y, py), (z, pz)]) rfl e2
    have hl := str_all e2
    rw [hn] at e e3
    obtain ⟨n1, l1, _⟩ := w_loc C h1
    obtain ⟨n2, l2, _⟩ := w_loc C h2
    obtain ⟨n3, l3, _⟩ := w_loc C h2'
    have k1 : X.env.scope.names.lookup x = some .local := by
      obtain ⟨x', p', e', k'⟩ := hl (.Name x px) (by simp)
      cases e'; exact k'
    have k2 : X.env.scope.names.lookup y = some .local := by
      obtain ⟨x', p', e', k'⟩ := hl (.Name y py) (by simp)
      cases e'; exact k'
    have k3 : X.env.scope.names.lookup z = some .local := by
      obtain ⟨x', p', e', k'⟩ := hl (.Name z pz) (by simp)
      cases e'; exact k'
    obtain ⟨d1, d2, d3⟩ := nd3 e3
    exact PS.mn (ps_par3 C.calm C.ndX n1 n2 n3 (n_ne C.ndX n1 n2 d1) (n_ne C.ndX n1 n3 d2) (n_ne C.ndX n2 n3 d3) k1 k2 k3 pa e rfl) fun De s H q => by simp only [evS] at q; exact ts_par3 q
theorem sole {e tg : Expr} (h : isCompr e = false ∨ ∀ x p, tg ≠ .Name x p) (line : Nat) (env : PySem.Env) : swapsWithSole [tg] e line env = pure false := by
  rcases h with h | h
  · exact not_sw h _ _ _
  · exact sw_other h _ _
theorem asg_sub {o i : Expr} {tp : Pos} (h : ¬ isSli i = true) (env : PySem.Env) (v : Value) : assign (.Subscript o i tp) env v = (do
    let ov ← holding [v] (eval o env)
    let iv ← holding [v, ov] (eval i env)
    standAt tp
    holding [v, ov, iv] (setItem ov iv v)
    release [v, ov, iv] []) := by
  cases i <;> first
    | rfl
    | exact absurd rfl h
theorem st_s {n : Nat} (is : IS n cf) (X : Cx) (c : CC) (s : Stmt) (i : Sx) (C : Ctx X c cf) (h : cS (n + 1) c s = some i) : PS X s (TRS X.K (evS cf i)) := by
  unfold cS at h
  split at h
  · obtain ⟨y, h1, h2⟩ := mp1 h
    subst h2
    exact PS.mn (ps_ret ((ih_all n).e X c _ y C h1)) fun De s H q => by simp only [evS] at q; exact ts_ret q
  · cases h
    exact PS.mn ps_retN fun De s H q => by simp only [evS] at q; exact ts_retN q
  · split at h
    · rename_i j y h1 h2
      cases h
      exact st_name X c C h1 h2
    · cases h
  · split at h
    · rename_i j k l h1 h2 h3
      split at h
      · rename_i hp
        cases h
        exact st_par2 X c C h1 h2 h3 hp
      · cases h
    · cases h
  · split at h
    · rename_i j k k' l h1 h2 h2' h3
      split at h
      · rename_i hp
        cases h
        exact st_par3 X c C h1 h2 h2' h3 hp
      · cases h
    · cases h
  · split at h
    · cases h
    · rename_i hv
      simp only [Bool.or_eq_true, not_or, Bool.not_eq_true] at hv
      split at h
      · rename_i t y h1 h2
        cases h
        exact PS.mn (ps_asg ((ih_all n).e X c _ y C h2) (C.tg h1) (sole (.inl hv.2) _ _) (swst_no (.inr hv.1) _) rfl) fun De s H q => by simp only [evS] at q; exact ts_set q
      · cases h
  · split at h
    · cases h
    · split at h
      · rename_i x y z h1 h2 h3
        cases h
        exact PS.mn (ps_asg ((ih_all n).e X c _ z C h3) (pg_sub ((ih_all n).e X c _ x C h1) ((ih_all n).e X c _ y C h2) set_list (asg_sub (by assumption) X.env)) (sole (.inr fun _ _ z => by cases z) _ _) (swst_no (.inl rfl) _) rfl) fun De s H q => by simp only [evS] at q; exact ts_seti q
      · cases h
  · split at h
    · rename_i j y h1 h2
      cases h
      obtain ⟨n1, l1, w1⟩ := w_loc C h1
      exact PS.mn (ps_aug C.ndX n1 l1 ((ih_all n).e X c _ y C h2) ip_add w1) fun De s H q => by simp only [evS] at q; exact ts_aug .add (.inl ⟨rfl, rfl⟩) q
    · rename_i j y h1 h2
      cases h
      obtain ⟨n1, l1, w1⟩ := w_loc C h1
      exact PS.mn (ps_aug C.ndX n1 l1 ((ih_all n).e X c _ y C h2) ip_sub w1) fun De s H q => by simp only [evS] at q; exact ts_aug .sub (.inr ⟨rfl, rfl⟩) q
    · cases h
  · cases h
    exact PS.mn ps_doc fun De s H q => by simp only [evS] at q; exact ts_nil q
  · split at h
    · cases h
    · rename_i hc
      obtain ⟨y, h1, h2⟩ := mp1 h
      subst h2
      exact PS.mn (ps_expr ((ih_all n).e X c _ y C h1) (not_sw (by simpa using hc) _ _ _)) fun De s H q => by simp only [evS] at q; exact ts_expr q
  · split at h
    · rename_i x y z h1 h2 h3
      cases h
      exact PS.mn (ps_if ((ih_all n).t X c _ x C h1) (is.ss X c _ y C h2) (is.ss X c _ z C h3)) fun De s H q => by simp only [evS] at q; exact ts_if q
    · cases h
  · split at h
    · rename_i t j y h1 h2 h3
      cases h
      obtain ⟨g1, g2⟩ := (ih_all n).i X c _ _ j C h2
      exact PS.mn (ps_for C.pass C.calm g1 (C.tg h1) (is.ss X c _ y C h3) (fold_no g2 X.env)) fun De s H q => by simp only [evS] at q; exact ts_for q
    · cases h
  · split at h
    · rename_i x y h1 h2
      cases h
      exact PS.mn (ps_while C.pass ((ih_all n).t X c _ x C h1) (is.ss X c _ y C h2)) fun De s H q => by simp only [evS] at q; exact ts_whl q
    · cases h
  · cases h
    exact PS.mn ps_break fun De s H q => by simp only [evS] at q; exact ts_brk q
  · cases h
    exact PS.mn ps_continue fun De s H q => by simp only [evS] at q; exact ts_cont q
  · cases h
    exact PS.mn ps_pass fun De s H q => by simp only [evS] at q; exact ts_nil q
  · cases h
theorem is_all : ∀ n, IS n cf
  | 0 => is_zero
  | n + 1 => ⟨st_s (is_all n), st_ss (is_all n)⟩
end Ev

set_option Elab.async false
set_option linter.all false
set_option maxRecDepth 100000
set_option maxHeartbeats 8000000
namespace Ev
open PySem PySem.Spec PyProof.Rows L2

/-! ### a def by its body, where no guard runs -/
section
variable {P : Program} {w : World} {K : PySem.W.Frag} {mg : Str → Option Value} {base : Heap}
theorem fun_g {x qual : Str} {st : Stmt} {f : Addr} {fd : FuncData} {N ps : List Str} {k : Nat} {sp : Sp} (F : Fun K x qual st f fd) (S : FnScope N ps (defScope st)) (len : ∀ vs H Q E, sp vs H Q E → vs.length = ps.length)
    (body : ∀ (cdv : Value) (A : Around) (outer : List PySem.Env) (s : Shared) (H : Hp) (vs : List V) (Q : VK) (E : XK),
      Room k (A.deeper (envOfC qual (defScope st) s.heap.objs.size f cdv)) → A.guards = some [] → sp vs H Q E →
      ∃ t, PSs (cxOf CX0 P w K mg base N qual (defScope st) f cdv A outer s H E).nox (defBody st) t ∧ t { nx := fun _ H' => Q .non H', rt := Q } (start N vs) H) :
    FnG P w K mg base CX0 (k + 1) f fd ps sp := by
  obtain ⟨oc, od, kV, doc, pm, an, cdv, ct, osl, rfl, lk, hcd⟩ := F.ex
  refine ⟨len, fun A outer s H args us vs Q E hr hg e0 hb r hsp => ?_⟩
  have inn : K.In s.heap := e0.mod.kin.keeps fun b o e =>
    (e0.bs b o e).1
  have lim := e0.mod.nolimit.keeps (h' := s.heap) fun b o e => (e0.bs b o e).1
  obtain ⟨t, ht, hq⟩ := body cdv A outer s H vs Q E (hr.deeper _) hg hsp
  have kinds : ∀ y ∈ ps.zip us, (defScope st).names.lookup y.1 = some .local ∨
      ((defScope st).names.lookup y.1 = some .cell ∧ ((cellsFrom (s.heap.objs.size + 1) (defScope st).names []).lookup y.1).isSome = true) := by
    rintro ⟨n, v⟩ hy
    rcases S.par n (List.of_mem_zip hy).1 with q | q
    · exact .inl q
    · exact .inr ⟨q, PySem.W.cellsFrom_some _ _ _
        (.inl q)⟩
  refine codeAny_call_function hr.depth (inn _ _ lk) rfl S.co S.gen rfl
    (PySem.W.codeRec_of inn hcd) (hb _ _ _ _ ?_)
  refine wpAny_newFunctionEnv_cells S.kind kinds fun env he s1 x => ?_
  subst he
  refine ⟨lim.keeps x.toInCall.keep, codeAny_func ?_⟩
  have I := inv_start (CX := CX0) (mg := mg) (qual := qual) (f := f) (cd := cdv) (E := E)
    S hr.hd e0 (len _ _ _ _ hsp) r x
  refine wpAny_mono (ht.nox.run [] s1 (start N vs) H _ I hq) (fun fl s' hs => ?_) fun e s' hs => hs
  have close : ∀ {σ : L2.St} {H' : Hp} {v : V} {u : Value}, Inv (cxOf CX0 P w K mg base N qual (defScope st) f cdv A outer s H E) [] σ H' s' → RelV v u →
      Q v H' → CE outer P w H s Q u s' := fun {σ H' v u} J rv q =>
    ⟨v, H', J.os, J.bare, J.base, J.hok, rv, q⟩
  cases fl with
  | next => obtain ⟨σ, H', J, q⟩ := hs; exact close (v := .non) (u := .none) J rfl q
  | ret u => obtain ⟨v, σ, H', J, rv, q⟩ := hs; exact close J rv q
  | brk => obtain ⟨_, _, _, q⟩ := hs; exact q.elim
  | cont => obtain ⟨_, _, _, q⟩ := hs; exact q.elim
end

/-! ### a table of defs -/
structure En where
  name : Str
  st : Stmt
  N : List Str
  ps : List Str
  body : Sxs
def dfOf (e : En) : Df := ⟨e.N.length, e.ps.length, e.body⟩
def fTab (es : List En) : List (Str × Nat × Nat) := es.mapIdx fun i e => (e.name, i, e.ps.length)
def ccOf (es : List En) (B : List Str) (KW : List (Str × Nat × List Str × List Nat)) (e : En) : CC := ⟨defScope e.st, e.N, wOf (defScope e.st), fTab es, B, KW⟩
/-- what the head says of a def -/
structure EnOk (K : PySem.W.Frag) (mg : Str → Option Value) (KW : List (Str × Nat × List Str × List Nat)) (e : En) (f : Addr) (fd : FuncData) : Prop where
  fn : Fun K e.name e.name e.st f fd
  gl : mg e.name = some (.ref f)
  bd : L2.Binds K fd e.ps []
  kb : ∀ np ks pm, (e.name, np, ks, pm) ∈ KW → KBinds K fd e.ps ks (gP np ks.length pm) (gPV np ks.length pm)
theorem fTab_get {es : List En} {x : Str} {i n : Nat} (h : (fTab es).lookup x = some (i, n)) : ∃ e, es[i]? = some e ∧ e.name = x ∧ e.ps.length = n := by
  have hm : (x, i, n) ∈ fTab es := PySem.mem_of_lookup h
  unfold fTab at hm
  obtain ⟨j, hj⟩ := List.mem_iff_getElem?.mp hm
  rw [List.getElem?_mapIdx] at hj
  cases he : es[j]? with
  | none => rw [he] at hj; cases hj
  | some e =>
    rw [he] at hj
    have hj' : (e.name, j, e.ps.length) = (x, i, n) := Option.some.inj hj
    cases hj'
    exact ⟨e, he, rfl, rfl⟩
theorem env_start {K : PySem.W.Frag} {m : Nat → Addr} {L : Nat} {H : Hp} {N : List Str} {ds : List D} {vs : List V} (h : DenL K m L H ds vs) : EnvR K m L H (ds.map some ++ List.replicate (N.length - ds.length) none) (L2.start N vs) := by
  have hl := h.len
  refine ⟨by unfold L2.start; simp [hl], fun i d hd => ?_⟩
  by_cases hi : i < ds.length
  · rw [List.getElem?_append_left (by simpa using hi), List.getElem?_map] at hd
    cases e : ds[i]? with
    | none => rw [e] at hd; cases hd
    | some d' =>
      rw [e] at hd
      cases hd
      obtain ⟨v, h1, h2⟩ := h.get e
      refine ⟨v, ?_, h2⟩
      unfold L2.start
      rw [List.getElem?_append_left (by simp; omega), List.getElem?_map, h1]
      rfl
  · rw [List.getElem?_append_right (by simpa using hi), List.getElem?_replicate] at hd
    split at hd <;> cases hd
theorem evCall_len {P : List Df} {k i : Nat} {d : Df} (h : P[i]? = some d) : ∀ ds S r, evCall P k i ds S = some r → ds.length = d.params := by
  intro ds S r e
  cases k with
  | zero => cases e
  | succ k =>
    unfold evCall at e
    rw [h] at e
    dsimp only at e
    unfold runDf at e
    split at e
    · assumption
    · cases e
theorem w_of_ok {sc : Scope} {x : Str} (h : x ∈ wOf sc) : L2.Loc sc x := w_of h
variable {P : Program} {w : World} {K : PySem.W.Frag} {mg : Str → Option Value} {base : Heap}
theorem all_fn {es : List En} {B : List Str} {KW : List (Str × Nat × List Str × List Nat)} {fa : Nat → Addr} {fd : Nat → FuncData} (hB : ∀ x ∈ B, mg x = none)
    (hS : ∀ (i : Nat) (e : En), es[i]? = some e → FnScope e.N e.ps (defScope e.st)) (hC : ∀ (i : Nat) (e : En), es[i]? = some e → cSs 100 (ccOf es B KW e) (defBody e.st) = some e.body) (hE : ∀ (i : Nat) (e : En), es[i]? = some e → EnOk K mg KW e (fa i) (fd i)) :
    ∀ (k i : Nat) (e : En), es[i]? = some e → FnG P w K mg base CX0 (3 * k) (fa i) (fd i) e.ps (SpF K (evCall (es.map dfOf) k) i e.ps.length)
  | 0, i, e, he => ⟨fun vs H Q E h => h.1, fun _ _ _ _ _ _ _ _ _ _ _ _ _ _ h => by
      obtain ⟨_, _, _, _, _, _, _, _, h, _⟩ := h
      cases h⟩
  | k + 1, i, e, he => by
    have E := hE i e he
    show FnG P w K mg base CX0 ((3 * k + 2) + 1) (fa i) (fd i) e.ps _
    refine fun_g E.fn (hS i e he) (fun vs H Q E h => h.1) fun cdv A outer s H vs Q E' hr hg hsp => ?_
    have C : Ctx (cxOf CX0 P w K mg base e.N e.name (defScope e.st) (fa i) cdv A outer s H E').nox (ccOf es B KW e) (evCall (es.map dfOf) k) := by
      refine ⟨rfl, rfl, (hS i e he).nd, rfl, rfl, hg, ?_, fun x hx => ⟨w_of hx, .inl rfl⟩, hB, fun x j n hx => ?_⟩
      · exact hr.units
      · obtain ⟨e', h1, h2, h3⟩ := fTab_get hx
        subst h2
        subst h3
        have E2 := hE j e' h1
        refine ⟨fa j, fd j, e'.ps, 3 * k, E2.gl, E2.fn.kp, E2.bd, hr, all_fn hB hS hC hE k j e' h1, ?_, E2.kb⟩
        exact fun ds S r q => evCall_len (d := dfOf e') (by rw [List.getElem?_map, h1]; rfl) ds S r q
    refine ⟨_, (is_all 100).ss _ _ _ _ C (hC i e he), ?_⟩
    obtain ⟨hl, m, S, ds, d, S', sim, hd, hc, kk⟩ := hsp
    unfold evCall at hc
    rw [List.getElem?_map, he] at hc
    dsimp only [Option.map] at hc
    unfold runDf at hc
    split at hc
    · have env := env_start (N := e.N) hd
      split at hc
      · rename_i r1 S1 h1
        cases hc
        exact ⟨m, S, _, _, sim, env, h1, fun s' H' m' g _ => kk _ _ _ g den_non⟩
      · rename_i v S1 h1
        cases hc
        exact ⟨m, S, _, _, sim, env, h1, fun v H' m' g hv => kk _ _ _ g hv⟩
      · cases hc
    · cases hc
end Ev

set_option Elab.async false
set_option linter.all false
set_option maxRecDepth 100000
set_option maxHeartbeats 8000000
namespace Ev
open PySem PySem.Spec PyProof.Rows L2

/-! ### the law's own call -/
theorem lead {P : Program} {w : World} {K : PySem.W.Frag} {mg mb : Str → Option Value} {k : Nat} {fa a : Addr} {fd : FuncData} {x : Str} {sp : Sp} {s1 : Shared} {vs : List Value} {H : Hp}
    (KX : K.In s1.heap) (hns : s1.heap.Ns mainGlobals mg) (hb : s1.heap.Ns builtinsNs mb) (hbb : ∀ x : Str, x ≠ "__name__" → mb x = bootBuiltins x) (hlim : s1.heap.NoLimit) (hg : s1.gens = #[])
    (ha : s1.heap.get? a = some { cls := .type "list", data := .seq vs.toArray }) (hr : Room k callerA)
    (F : ∀ base : Heap, K.In base → base.Ns mainGlobals mg → FnG P w K mg base CX0 k fa fd [x] sp) (hbind : ∀ (s : Shared) (u : Value), BindsTo s fd ⟨[u], []⟩ [(x, u)])
    (hO : Only H) (hsp : sp [.ref a] H (fun v _ => v = .bl true) E0) (hok : HOk P w H s1.heap) (hA : ∀ b, H b ≠ none → b = a) (hK : H a ≠ none → K.lookup a = none) :
    codeAny (model P w) callerA (.call (.ref fa) ⟨[.ref a], []⟩)
      (fun r s' => r = .ok (.ret (.bool true)) ∧ OldK s1.heap s'.heap ∧ s'.os = s1.os ∧ AllBare s'.gens) s1 := by
  have at_a : ∀ b, (∃ u, H b = some u) → b = a := fun b ⟨u, q⟩ => hA b (by rw [q]; exact fun z => nomatch z)
  have free : ∀ b, (b ≠ a) → H b = none := fun b hb => by
    cases q : H b with
    | none => rfl
    | some u => exact absurd (at_a b ⟨u, q⟩) hb
  have dictFree : ∀ {b : Addr} {o : Obj} {es : Array DictEntry} {ep : Nat}, s1.heap.get? b = some o → o.data = .dict es ep → H b = none := fun {b o es ep} e d => by
    refine free b fun z => ?_
    subst z
    rw [ha] at e
    cases e
    exact nomatch (show Data.seq vs.toArray _ = Data.dict es ep from d)
  have nsK : ∀ {b : Addr} {m : Str → Option Value}, s1.heap.Ns b m → (hidT s1.heap H).Ns b m := by
    rintro b m ⟨o, es, ep, e, d, r⟩
    exact ⟨o, es, ep, hidT_get e (dictFree e d), d, r⟩
  have inB : K.In (hidT s1.heap H) := by
    intro b o e
    refine hidT_get (KX b o e) ?_
    cases q : H b with
    | none => rfl
    | some u =>
      have z := at_a b ⟨u, q⟩
      subst z
      have := hK (by rw [q]; exact fun z => nomatch z)
      rw [this] at e
      cases e
  obtain ⟨mc, l1, l2⟩ := hlim
  have e0 : Env0 P w K mg (hidT s1.heap H) callerA [] s1 H := by
    refine ⟨rfl, ⟨inB, nsK hns, ⟨mb, nsK hb, hbb⟩, ⟨mc, nsK l1, l2⟩⟩, fun b o e => of_hidT e, Nat.le_of_eq (hidT_size _ _), trivial, ?_, hok, .of_eq hg⟩
    intro b hb
    exact nomatch (show b ∈ ([] : List Addr) from hb)
  have run := (F _ inB (nsK hns)).run callerA [] s1 H ⟨[.ref a], []⟩ [.ref a] [.ref a] _ E0 hr rfl e0 (hbind s1 (.ref a)) (.cons rfl .nil) hsp
  refine codeAny_mono run fun r s' h => ?_
  cases r with
  | error e => exact h.elim
  | ok fl => cases fl with
    | ret u =>
      obtain ⟨v, H', os, bare, un, hok', r', q⟩ := h
      obtain rfl : v = .bl true := q
      obtain rfl : u = Value.bool true := r'
      refine ⟨rfl, OldK.of_keep fun b o e => ?_, os, bare⟩
      rcases hO b with z | ⟨ob, xs, z⟩
      · exact un.keep b o e z (fun y => nomatch (show b ∈ ([] : List Addr) from y)) (fun y => nomatch y)
      · have e1 := (hok b _ z).1
        have e2 := (hok' b _ (un.frzs b ob _ z)).1
        rw [e] at e1
        cases e1
        exact e2
    | _ => exact h.elim
theorem leadAll {P : Program} {w : World} {K : PySem.W.Frag} {mg mb : Str → Option Value} {k : Nat} {fa a : Addr} {fd : FuncData} {x : Str} {sp : Sp} {s1 : Shared} {vs : List Value} {ns : List Int}
    (KX : K.In s1.heap) (hns : s1.heap.Ns mainGlobals mg) (hb : s1.heap.Ns builtinsNs mb) (hbb : ∀ x : Str, x ≠ "__name__" → mb x = bootBuiltins x) (hlim : s1.heap.NoLimit) (hg : s1.gens = #[])
    (ha : s1.heap.get? a = some { cls := .type "list", data := .seq vs.toArray }) (hi : IntsAre vs ns) (hl : ns.length ≤ sizeLine) (hr : Room k callerA)
    (F : ∀ base : Heap, K.In base → base.Ns mainGlobals mg → FnG P w K mg base CX0 k fa fd [x] sp) (hbind : ∀ (s : Shared) (u : Value), BindsTo s fd ⟨[u], []⟩ [(x, u)])
    (hsp : ∀ H : Hp, Only H → SqL K H a (ns.map V.int) → sp [.ref a] H (fun v _ => v = .bl true) E0) :
    codeAny (model P w) callerA (.call (.ref fa) ⟨[.ref a], []⟩)
      (fun r s' => r = .ok (.ret (.bool true)) ∧ OldK s1.heap s'.heap ∧ s'.os = s1.os ∧ AllBare s'.gens) s1 := by
  have rv := vals_ints hi
  have hsz := hi.length
  cases hk : K.lookup a with
  | some o =>
    have e := KX a o hk
    rw [ha] at e
    cases e
    have only : Only fun _ => none := fun _ => .inl rfl
    refine lead (H := fun _ => none) KX hns hb hbb hlim hg ha hr F hbind only (hsp _ only (.inr ⟨_, vs.toArray, _, hk, rfl, rfl, rfl, ?_, by simpa using rv⟩)) (fun b u z => nomatch z) (fun b z => absurd rfl z) fun z => absurd rfl z
    rw [List.size_toArray, hsz]
    exact hl
  | none =>
    have at_ : ∀ b, b = a → (fun b => if b = a then some (HO.frz { cls := .type "list", data := .seq vs.toArray } (.lst (ns.map V.int))) else none) b = some (.frz { cls := .type "list", data := .seq vs.toArray } (.lst (ns.map V.int))) := fun b e => if_pos e
    have off : ∀ b, b ≠ a → (fun b => if b = a then some (HO.frz { cls := .type "list", data := .seq vs.toArray } (.lst (ns.map V.int))) else none) b = none := fun b e => if_neg e
    generalize (fun b => if b = a then some (HO.frz { cls := .type "list", data := .seq vs.toArray } (.lst (ns.map V.int))) else none) = H at at_ off
    have only : Only H := fun b => by
      by_cases e : b = a
      · exact .inr ⟨_, _, at_ b e⟩
      · exact .inl (off b e)
    refine lead (H := H) KX hns hb hbb hlim hg ha hr F hbind only (hsp _ only (.inl (.inr ⟨_, at_ a rfl⟩))) (fun b u z => ?_) (fun b z => ?_) fun _ => hk
    · by_cases e : b = a
      · rw [at_ b e] at z
        cases z
        subst e
        exact ⟨ha, by rw [List.length_map]; exact hl, vs, _, rv, ha⟩
      · rw [off b e] at z
        cases z
    · by_cases e : b = a
      · exact e
      · exact absurd (off b e) z
/-- the goal that the head leaves -/
theorem walkG {l : PySem.W.OpenLaw} {n k : Nat} {q : Program} {loose : List Str} {XP : (Str → Option Value) → Heap → Prop} {YP : World → Heap → Prop} {d : DefRec} {K : Params → PySem.W.Frag} {x : Str} {Ps : List Df} {i : Nat}
    (hn : l.most = some n) (hn2 : n ≤ sizeLine) (hdf : d.params.defaults = []) (hr : Room (3 * k) callerA)
    (hY : ∀ (w : World) (h : Heap), YP w h → (K w.params).In h)
    (F : ∀ (w : World) (mg : Str → Option Value) (fa : Addr) (h : Heap), (K w.params).In h → h.Ns mainGlobals mg → mg d.name = some (.ref fa) →
      ∃ fd : FuncData, (∀ (s : Shared) (u : Value), BindsTo s fd ⟨[u], []⟩ [(x, u)]) ∧
        ∀ base : Heap, (K w.params).In base → base.Ns mainGlobals mg → FnG l.prog w (K w.params) mg base CX0 (3 * k) fa fd [x] (SpF (K w.params) (evCall Ps k) i 1))
    (law : ∀ ns : List Int, ns.length ≤ n → ∃ S', evCall Ps k i [.frz (ns.map .int)] [] = some (.bl true, S')) :
    PySem.W.WalkO q loose XP YP l.row.toRowW d [] (fun f vs => PySem.call f vs) := by
  refine Att.attach_call hn hdf fun w s₀ s₁ mg mb fa o pm cd doc a vs ns G Y ho hd hcd hmg hobj hints hlen hg => ?_
  have KX := hY w _ Y
  obtain ⟨fd, hb, hF⟩ := F w mg fa _ KX G.T.g hmg
  refine leadAll KX G.T.g G.T.b G.T.builtins G.T.nolimit hg hobj hints
    (Nat.le_trans hlen hn2) hr hF hb fun H hO hS => ?_
  obtain ⟨S', e⟩ := law ns hlen
  have dn : ∀ ns : List Int, DenL (K w.params) (fun _ => 0) 0 H (ns.map .int) (ns.map V.int) := fun ns => by
    induction ns with
    | nil => exact DenL.nil
    | cons i ns ih => exact DenL.cons (den_int i) ih
  refine ⟨rfl, fun _ => 0, [], _, _, S', ⟨fun i j hi _ _ => absurd hi (Nat.not_lt_zero _), fun n xs h => by simp at h⟩, DenL.cons ?_ DenL.nil, e, fun v H' m' _ hv => hv.bl_inv⟩
  simp only [Den]
  exact ⟨a, _, rfl, FzL.of_only hO hS, dn ns⟩
end Ev

set_option Elab.async false
set_option linter.all false
set_option maxRecDepth 100000
set_option maxHeartbeats 8000000
namespace Ev
open PySem PySem.Spec PyProof.Rows L2

/-! ### lists of defs, one after another -/
theorem at_nil {α : Type} {P : α → Prop} : ∀ (i : Nat) (x : α), ([] : List α)[i]? = some x → P x := fun i x h => by simp at h
theorem at_cons {α : Type} {P : α → Prop} {a : α} {l : List α} (h : P a) (t : ∀ (i : Nat) (x : α), l[i]? = some x → P x) : ∀ (i : Nat) (x : α), (a :: l)[i]? = some x → P x
  | 0, x, e => by
    have e' : some a = some x := e
    cases e'
    exact h
  | i + 1, x, e => t i x (by simpa using e)
theorem in_nil {α : Type} {P : α → Prop} : ∀ x, x ∈ ([] : List α) → P x := fun x h => nomatch h
theorem in_cons {α : Type} {P : α → Prop} {a : α} {l : List α} (h : P a) (t : ∀ x, x ∈ l → P x) : ∀ x, x ∈ a :: l → P x := fun x hx => by
  rcases List.mem_cons.mp hx with rfl | hx
  · exact h
  · exact t x hx

/-! ### how arguments bind -/
def PosOk (x : Str) (st : Stmt) (ps : List Str) : Prop := ∀ (kV doc pm : Value) (an : Option Addr) (cdv ct : Value) (us : List Value), us.length = ps.length →
  bindArgs (PySem.W.fnOf x x (defArgs st) (defBody st) (defScope st) .none kV doc pm an cdv ct) ⟨us, []⟩ = pure (ps.zip us)
def KwOk (x : Str) (st : Stmt) (ps : List Str) (np : Nat) (ks : List Str) (pm : List Nat) : Prop := ∀ (kV doc pm' : Value) (an : Option Addr) (cdv ct : Value) (us ws : List Value), us.length = np → ws.length = ks.length →
  bindArgs (PySem.W.fnOf x x (defArgs st) (defBody st) (defScope st) .none kV doc pm' an cdv ct) ⟨us, ks.zip ws⟩ = pure (ps.zip (gP np ks.length pm us ws))
theorem vals_getD {vs : List V} {us : List Value} (h : Vals vs us) (i : Nat) : RelV (vs.getD i .non) (us.getD i .none) := by
  have hl := h.length
  by_cases hi : i < vs.length
  · obtain ⟨u, h1, h2⟩ := h.get (i := i) (List.getElem?_eq_getElem hi)
    rw [List.getD_eq_getElem?_getD, List.getD_eq_getElem?_getD, List.getElem?_eq_getElem hi, h1]
    exact h2
  · rw [List.getD_eq_getElem?_getD, List.getD_eq_getElem?_getD, List.getElem?_eq_none (by omega), List.getElem?_eq_none (by omega)]
    rfl
theorem vals_map {vs : List V} {us : List Value} (h : Vals vs us) : ∀ pm : List Nat, Vals (pm.map fun i => vs.getD i .non) (pm.map fun i => us.getD i .none)
  | [] => .nil
  | i :: pm => .cons (vals_getD h i) (vals_map h pm)
theorem rel_gP {np nk : Nat} {pm : List Nat} {vs zs : List V} {us ws : List Value} (h : Vals vs us) (h2 : Vals zs ws) : Vals (gPV np nk pm vs zs) (gP np nk pm us ws) := by
  unfold gPV gP
  rw [h.length, h2.length]
  split
  · exact vals_map (h.append h2) pm
  · exact .nil
theorem kb_mk {K : PySem.W.Frag} {x : Str} {st : Stmt} {f : Addr} {fd : FuncData} {ps ks : List Str} {np : Nat} {pm : List Nat} (F : Fun K x x st f fd) (h : KwOk x st ps np ks pm) (hp : ps ≠ []) : KBinds K fd ps ks (gP np ks.length pm) (gPV np ks.length pm) := by
  obtain ⟨oc, od, kV, doc, pm', an, cdv, ct, osl, rfl, lk, hcd⟩ := F.ex
  refine ⟨fun s us ws _ hl => .of_eq (h kV doc pm' an cdv ct us ws ?_ ?_), fun h h2 => rel_gP h h2⟩
  · unfold gP at hl
    split at hl
    · rename_i c; exact c.1
    · exact absurd (List.length_eq_zero_iff.mp hl.symm) hp
  · unfold gP at hl
    split at hl
    · rename_i c; exact c.2
    · exact absurd (List.length_eq_zero_iff.mp hl.symm) hp

/-! ### what the head says -/
def Fact (K : PySem.W.Frag) (x : Str) (st : Stmt) : Prop := ∃ (f : Addr) (oc : Value) (od : Option Addr) (kV doc pm : Value) (an : Option Addr) (cdv ct : Value) (sl : Array (Option Value)),
  PySem.W.nsIn K mainGlobals x = some (some (.ref f)) ∧ K.lookup f = some ⟨oc, od, .func (PySem.W.fnOf x x (defArgs st) (defBody st) (defScope st) .none kV doc pm an cdv ct), sl⟩ ∧ PySem.W.codeIn K cdv x = true ∧ PySem.W.keepIn K (.ref f) = true
theorem fact_mk {K : PySem.W.Frag} {x : Str} {st : Stmt} {f : Addr} {oc : Value} {od : Option Addr} {kV doc pm : Value} {an : Option Addr} {cdv ct : Value} {sl : Array (Option Value)}
    (a : PySem.W.nsIn K mainGlobals x = some (some (.ref f))) (l : K.lookup f = some ⟨oc, od, .func (PySem.W.fnOf x x (defArgs st) (defBody st) (defScope st) .none kV doc pm an cdv ct), sl⟩) (c : PySem.W.codeIn K cdv x = true) (k : PySem.W.keepIn K (.ref f) = true) : Fact K x st :=
  ⟨f, oc, od, kV, doc, pm, an, cdv, ct, sl, a, l, c, k⟩
structure Sheet (es : List En) (B : List Str) (KW : List (Str × Nat × List Str × List Nat)) : Prop where
  sc : ∀ (i : Nat) (e : En), es[i]? = some e → FnScope e.N e.ps (defScope e.st)
  co : ∀ (i : Nat) (e : En), es[i]? = some e → cSs 100 (ccOf es B KW e) (defBody e.st) = some e.body
  po : ∀ (i : Nat) (e : En), es[i]? = some e → PosOk e.name e.st e.ps
  kw : ∀ (i : Nat) (e : En), es[i]? = some e → ∀ q, q ∈ KW.filter (fun q => decide (q.1 = e.name)) → KwOk e.name e.st e.ps q.2.1 q.2.2.1 q.2.2.2 ∧ e.ps ≠ []
theorem sheet_F {es : List En} {B : List Str} {KW : List (Str × Nat × List Str × List Nat)} (T : Sheet es B KW) {P : Program} {w : World} {K : PySem.W.Frag} {mg : Str → Option Value} {h : Heap} {fa : Addr} {i : Nat} {e : En} {x : Str} (k : Nat) (he : es[i]? = some e) (hx : e.ps = [x])
    (X : K.In h) (G : h.Ns mainGlobals mg) (hfa : mg e.name = some (.ref fa)) (hF : ∀ (i : Nat) (e : En), es[i]? = some e → Fact K e.name e.st) (hB : ∀ x, x ∈ B → PySem.W.nsIn K mainGlobals x = some none) :
    ∃ fd : FuncData, (∀ (s : Shared) (u : Value), BindsTo s fd ⟨[u], []⟩ [(x, u)]) ∧
      ∀ base : Heap, K.In base → base.Ns mainGlobals mg → FnG P w K mg base CX0 (3 * k) fa fd [x] (SpF K (evCall (es.map dfOf) k) i 1) := by
  have ok : ∀ (j : Nat), ∃ p : Addr × FuncData, ∀ e', es[j]? = some e' → EnOk K mg KW e' p.1 p.2 ∧ ∀ (s : Shared) (us : List Value), us.length = e'.ps.length → BindsTo s p.2 ⟨us, []⟩ (e'.ps.zip us) := by
    intro j
    cases hj : es[j]? with
    | none => exact ⟨(0, default), fun e' q => by cases q⟩
    | some e' =>
      obtain ⟨f, oc, od, kV, doc, pm, an, cdv, ct, sl, a1, l1, c1, k1⟩ := hF j e' hj
      refine ⟨(f, PySem.W.fnOf e'.name e'.name (defArgs e'.st) (defBody e'.st) (defScope e'.st) .none kV doc pm an cdv ct), fun e2 q => ?_⟩
      cases q
      have F := fun_mk (st := e'.st) l1 c1 k1
      have po := T.po j e' hj
      refine ⟨⟨F, PySem.W.mg_of X G a1, F.binds po, fun np ks pm hm => ?_⟩, fun s us hl => .of_eq (po kV doc pm an cdv ct us hl)⟩
      obtain ⟨h1, h2⟩ := T.kw j e' hj _ (List.mem_filter.mpr ⟨hm, decide_eq_true rfl⟩)
      exact kb_mk F h1 h2
  obtain ⟨p, hp⟩ := Classical.axiomOfChoice ok
  obtain ⟨h1, h2⟩ := hp i e he
  have e0 : fa = (p i).1 := by
    have := hfa.symm.trans h1.gl
    cases this
    rfl
  subst e0
  refine ⟨(p i).2, fun s u => ?_, fun base _ _ => ?_⟩
  · have := h2 s [u] (by rw [hx]; rfl)
    rw [hx] at this
    exact this
  · have := all_fn (P := P) (w := w) (base := base) (fa := fun j => (p j).1) (fd := fun j => (p j).2) (es := es) (fun y hy => PySem.W.mg_none_of X G (hB y hy)) T.sc T.co (fun j e' hj => (hp j e' hj).1) k i e he
    rw [hx] at this
    exact this
end Ev

set_option Elab.async false
set_option linter.all false
set_option maxRecDepth 100000
set_option maxHeartbeats 1000000
namespace Ev
open PySem PySem.Spec

/-! ### the evaluator by rules: what comes out, and what is true of it -/
def Ok {α : Type} (m : Option α) (Q : α → Prop) : Prop := ∃ a, m = some a ∧ Q a
section
variable {α β : Type} {m : Option α} {Q R : α → Prop}
theorem Ok.some {a : α} (h : Q a) : Ok (some a) Q := ⟨a, rfl, h⟩
theorem Ok.bind {f : α → Option β} {T : β → Prop} (h : Ok m fun a => Ok (f a) T) : Ok (m.bind f) T := by
  obtain ⟨a, rfl, b, h1, h2⟩ := h
  exact ⟨b, h1, h2⟩
theorem Ok.map {f : α → β} {T : β → Prop} (h : Ok m fun a => T (f a)) : Ok (m.map f) T := by
  obtain ⟨a, rfl, h1⟩ := h
  exact ⟨f a, rfl, h1⟩
theorem Ok.mono (h : Ok m Q) (i : ∀ a, Q a → R a) : Ok m R := let ⟨a, h1, h2⟩ := h; ⟨a, h1, i a h2⟩
theorem Ok.of {a : α} (e : m = .some a) (h : Q a) : Ok m Q := ⟨a, e, h⟩
end

/-- the store goes on: cells that are there stay, but those at W -/
structure Ext (W : List Nat) (S S' : Store) : Prop where
  len : S.length ≤ S'.length
  old : ∀ n, n < S.length → n ∉ W → S'[n]? = S[n]?
section
variable {W : List Nat} {S S1 S2 : Store}
theorem Ext.refl : Ext W S S := ⟨Nat.le_refl _, fun _ _ _ => rfl⟩
theorem Ext.trans (a : Ext W S S1) (b : Ext W S1 S2) : Ext W S S2 := ⟨Nat.le_trans a.len b.len, fun n h1 h2 => (b.old n (Nat.lt_of_lt_of_le h1 a.len) h2).trans (a.old n h1 h2)⟩
theorem Ext.wide {W' : List Nat} (a : Ext W S S1) (h : ∀ n, n ∈ W → n ∈ W') : Ext W' S S1 := ⟨a.len, fun n h1 h2 => a.old n h1 fun h3 => h2 (h n h3)⟩
theorem Ext.of_nil {W' : List Nat} (a : Ext [] S S1) : Ext W' S S1 := a.wide fun n h => nomatch h
theorem Ext.push {x : List D} : Ext W S (S ++ [x]) := ⟨by simp, fun n h _ => List.getElem?_append_left h⟩
theorem Ext.set {n : Nat} {x : List D} (h : n ∈ W) : Ext W S (S.set n x) := ⟨by simp, fun i _ h2 => List.getElem?_set_ne fun z : n = i => h2 (by rw [← z]; exact h)⟩
theorem Ext.far {n : Nat} {x : List D} (a : Ext W S S1) (h : S.length ≤ n) : Ext W S (S1.set n x) := ⟨by simpa using a.len, fun i h1 h2 => by rw [List.getElem?_set_ne (by omega)]; exact a.old i h1 h2⟩
theorem Ext.at {n : Nat} {x : List D} (a : Ext W S S1) (h : S[n]? = some x) (hn : n ∉ W) : S1[n]? = some x := by
  rw [a.old n (List.getElem?_eq_some_iff.mp h).1 hn]
  exact h
theorem at_push {x : List D} : (S ++ [x])[S.length]? = some x := by simp
theorem lt_at {n : Nat} {x : List D} (h : S[n]? = some x) : n < S.length := (List.getElem?_eq_some_iff.mp h).1
end

/-! ### statements and defs -/
section
variable {cf : CallF} {r : Env} {S : Store} {Q : Fl → Prop}
theorem ss_nil (h : Q (.nx r S)) : Ok (evSs cf .nil r S) Q := by
  unfold evSs
  exact .some h
theorem ss_cons {s : Sx} {ss : Sxs} (h : Ok (evS cf s r S) fun fl => match fl with
    | .nx r1 S1 => Ok (evSs cf ss r1 S1) Q
    | x => Q x) : Ok (evSs cf (.cons s ss) r S) Q := by
  obtain ⟨fl, e, h⟩ := h
  unfold evSs
  rw [e]
  cases fl with
  | nx r1 S1 => exact h
  | _ => exact ⟨_, rfl, h⟩
theorem s_set {i : Nat} {e : Ex} (h : Ok (evE cf e r S) fun p => Q (.nx (r.set i (some p.1)) p.2)) : Ok (evS cf (.set (.nm i) e) r S) Q := by
  unfold evS
  exact (h.mono fun p h => Ok.map (.some h)).bind
theorem s_ret {e : Ex} (h : Ok (evE cf e r S) fun p => Q (.rt p.1 p.2)) : Ok (evS cf (.ret e) r S) Q := by
  unfold evS
  exact (h.mono fun p h => Ok.some h).bind
theorem s_expr {e : Ex} (h : Ok (evE cf e r S) fun p => Q (.nx r p.2)) : Ok (evS cf (.expr e) r S) Q := by
  unfold evS
  exact (h.mono fun p h => Ok.some h).bind
theorem s_if {c : Tx} {a b : Sxs} (h : Ok (evB cf c r S) fun p => if p.1 = true then Ok (evSs cf a r p.2) Q else Ok (evSs cf b r p.2) Q) : Ok (evS cf (.iff c a b) r S) Q := by
  unfold evS
  refine (h.mono fun p h => ?_).bind
  split
  · rename_i c; rw [if_pos c] at h; exact h
  · rename_i c; rw [if_neg c] at h; exact h
theorem for_ok {tg : Tg} {g : Option (Nat × List D)} {body : Env → Store → Option Fl} (I : List D → Env → Store → Prop) (hg : ∀ rem r S, I rem r S → okG g S)
    (step : ∀ x rem r S, I (x :: rem) r S → ∃ r1, bindT tg x r = some r1 ∧ Ok (body r1 S) fun fl => match fl with
      | .nx r2 S2 => I rem r2 S2
      | .ct r2 S2 => I rem r2 S2
      | .bk r2 S2 => Q (.nx r2 S2)
      | .rt d S2 => Q (.rt d S2))
    (fin : ∀ r S, I [] r S → Q (.nx r S)) : ∀ {items : List D} {r : Env} {S : Store}, I items r S → Ok (forLoop tg g body items r S) Q
  | [], r, S, h => by
    unfold forLoop
    rw [if_pos (hg _ _ _ h)]
    exact .some (fin r S h)
  | x :: items, r, S, h => by
    unfold forLoop
    rw [if_pos (hg _ _ _ h)]
    obtain ⟨r1, e1, fl, e2, h2⟩ := step x items r S h
    rw [e1]
    dsimp only
    rw [e2]
    cases fl with
    | nx r2 S2 => exact for_ok I hg step fin h2
    | ct r2 S2 => exact for_ok I hg step fin h2
    | bk r2 S2 => exact .some h2
    | rt d S2 => exact .some h2
theorem s_for {tg : Tg} {it : Itr} {b : Sxs} (h : Ok (evI cf it r S) fun p => Ok (forLoop tg p.1.guard (fun r1 S1 => evSs cf b r1 S1) p.1.items r p.2) Q) : Ok (evS cf (.for tg it b) r S) Q := by
  unfold evS
  exact h.bind
theorem whl_ok {c : Env → Store → Option (Bool × Store)} {body : Env → Store → Option Fl} (I : Nat → Env → Store → Prop)
    (step : ∀ k r S, I k r S → Ok (c r S) fun p => match p.1 with
      | false => Q (.nx r p.2)
      | true => Ok (body r p.2) fun fl => match fl with
        | .nx r2 S2 => ∃ j, j < k ∧ I j r2 S2
        | .ct r2 S2 => ∃ j, j < k ∧ I j r2 S2
        | .bk r2 S2 => Q (.nx r2 S2)
        | .rt d S2 => Q (.rt d S2)) : ∀ {n k : Nat} {r : Env} {S : Store}, k < n → I k r S → Ok (whlLoop c body n r S) Q
  | 0, k, r, S, hk, h => absurd hk (Nat.not_lt_zero _)
  | n + 1, k, r, S, hk, h => by
    unfold whlLoop
    obtain ⟨⟨b, S1⟩, e1, h1⟩ := step k r S h
    rw [e1]
    cases b with
    | false => exact .some h1
    | true =>
      obtain ⟨fl, e2, h2⟩ := h1
      dsimp only
      dsimp only at e2
      rw [e2]
      cases fl with
      | nx r2 S2 => obtain ⟨j, hj, h3⟩ := h2; exact whl_ok I step (by omega) h3
      | ct r2 S2 => obtain ⟨j, hj, h3⟩ := h2; exact whl_ok I step (by omega) h3
      | bk r2 S2 => exact .some h2
      | rt d S2 => exact .some h2
theorem s_whl {n : Nat} {c : Tx} {b : Sxs} (h : Ok (whlLoop (fun r1 S1 => evB cf c r1 S1) (fun r1 S1 => evSs cf b r1 S1) n r S) Q) : Ok (evS cf (.whl n c b) r S) Q := by
  unfold evS
  exact h
theorem run_ok {d : Df} {ds : List D} {Q : D × Store → Prop} (hl : ds.length = d.params) (h : Ok (evSs cf d.body (ds.map some ++ List.replicate (d.slots - ds.length) none) S) fun fl => match fl with
    | .nx _ S1 => Q (.non, S1)
    | .rt v S1 => Q (v, S1)
    | _ => False) : Ok (runDf cf d ds S) Q := by
  unfold runDf
  rw [if_pos hl]
  obtain ⟨fl, e, h⟩ := h
  rw [e]
  cases fl with
  | nx r S1 => exact .some h
  | rt v S1 => exact .some h
  | bk _ _ => exact h.elim
  | ct _ _ => exact h.elim
theorem call_ok {P : List Df} {k f : Nat} {d : Df} {ds : List D} {Q : D × Store → Prop} (he : P[f]? = some d) (h : Ok (runDf (evCall P k) d ds S) Q) : Ok (evCall P (k + 1) f ds S) Q := by
  unfold evCall
  rw [he]
  exact h
end

/-! ### expressions -/
section
variable {cf : CallF} {r : Env} {S : Store} {Q : D × Store → Prop}
theorem e_var {i : Nat} {d : D} (e : r[i]? = some (some d)) (h : Q (d, S)) : Ok (evE cf (.var i) r S) Q := by
  unfold evE
  rw [e]
  exact .some h
theorem e_cst {d : D} (h : Q (d, S)) : Ok (evE cf (.cst d) r S) Q := by
  unfold evE
  exact .some h
theorem e_op {o : Op2} {a b : Ex} (h : Ok (evE cf a r S) fun p => Ok (evE cf b r p.2) fun q => Ok (opR o p.1 q.1 q.2) Q) : Ok (evE cf (.op o a b) r S) Q := by
  unfold evE
  exact (h.mono fun p h => h.bind).bind
theorem e_cmp {o : Cm} {a b : Ex} (h : Ok (evE cf a r S) fun p => Ok (evE cf b r p.2) fun q => Ok (cmR o p.1 q.1 q.2) fun c => Q (.bl c, q.2)) : Ok (evE cf (.cmp o a b) r S) Q := by
  unfold evE
  exact (h.mono fun p h => (h.mono fun q h => h.map).bind).bind
theorem e_ite {c : Tx} {a b : Ex} (h : Ok (evB cf c r S) fun p => if p.1 = true then Ok (evE cf a r p.2) Q else Ok (evE cf b r p.2) Q) : Ok (evE cf (.ite c a b) r S) Q := by
  unfold evE
  refine (h.mono fun p h => ?_).bind
  split
  · rename_i c; rw [if_pos c] at h; exact h
  · rename_i c; rw [if_neg c] at h; exact h
theorem e_tup {es : Exs} (h : Ok (evL cf es r S) fun p => p.1.length ≤ sizeLine ∧ Q (.tup p.1, p.2)) : Ok (evE cf (.tup es) r S) Q := by
  unfold evE
  refine (h.mono fun p h => ?_).bind
  rw [if_pos h.1]
  exact .some h.2
theorem e_lst {es : Exs} (h : Ok (evL cf es r S) fun p => p.1.length ≤ sizeLine ∧ Q (.ref p.2.length, p.2 ++ [p.1])) : Ok (evE cf (.lst es) r S) Q := by
  unfold evE
  refine (h.mono fun p h => ?_).bind
  rw [if_pos h.1]
  exact .some h.2
theorem e_idx {a i : Ex} (h : Ok (evE cf a r S) fun p => Ok (evE cf i r p.2) fun q => Ok (ixR p.1 q.1 q.2) fun d => Q (d, q.2)) : Ok (evE cf (.idx a i) r S) Q := by
  unfold evE
  exact (h.mono fun p h => (h.mono fun q h => h.map).bind).bind
theorem e_call {f : Nat} {es : Exs} (h : Ok (evL cf es r S) fun p => Ok (cf f p.1 p.2) Q) : Ok (evE cf (.call f es) r S) Q := by
  unfold evE
  exact h.bind
theorem e_callP {f : Nat} {es ks : Exs} {pm : List Nat} (h : Ok (evL cf es r S) fun p => Ok (evL cf ks r p.2) fun q => Ok (permL (p.1 ++ q.1) pm) fun ds => Ok (cf f ds q.2) Q) : Ok (evE cf (.callP f es ks pm) r S) Q := by
  unfold evE
  exact (h.mono fun p h => (h.mono fun q h => h.bind).bind).bind
theorem e_bi {b : Bi} {es : Exs} (h : Ok (evL cf es r S) fun p => Ok (biR b p.1 p.2) Q) : Ok (evE cf (.bi b es) r S) Q := by
  unfold evE
  exact h.bind
theorem e_bits {a : Ex} (h : Ok (evE cf a r S) fun p => ∃ i, p.1 = .int i ∧ Q (.int (Builtin.Int.intBits i : Nat), p.2)) : Ok (evE cf (.bits a) r S) Q := by
  unfold evE
  refine (h.mono fun p h => ?_).bind
  obtain ⟨i, e, h⟩ := h
  rw [e]
  exact .some h
theorem e_mt {m : Mt} {a : Ex} {es : Exs} (h : Ok (evE cf a r S) fun p => Ok (evL cf es r p.2) fun q => Ok (mtR m p.1 q.1 q.2) Q) : Ok (evE cf (.mt m a es) r S) Q := by
  unfold evE
  exact (h.mono fun p h => h.bind).bind
theorem e_rng {a : Ex} (h : Ok (evE cf a r S) fun p => ∃ j : Nat, p.1 = .int j ∧ j ≤ sizeLine ∧ Q (.ref p.2.length, p.2 ++ [rngD 0 j])) : Ok (evE cf (.listRng a) r S) Q := by
  unfold evE
  refine (h.mono fun p h => ?_).bind
  obtain ⟨j, e, hj, h⟩ := h
  rw [e]
  have : sizeLine = 2 ^ 24 := rfl
  dsimp only
  rw [if_pos ⟨by unfold inR62; omega, by rw [Int.toNat_natCast]; exact hj⟩, Int.toNat_natCast]
  exact .some h
theorem e_trng {a : Ex} (h : Ok (evE cf a r S) fun p => ∃ j : Nat, p.1 = .int j ∧ j ≤ sizeLine ∧ Q (.tup (rngD 0 j), p.2)) : Ok (evE cf (.tupRng a) r S) Q := by
  unfold evE
  refine (h.mono fun p h => ?_).bind
  obtain ⟨j, e, hj, h⟩ := h
  rw [e]
  have : sizeLine = 2 ^ 24 := rfl
  dsimp only
  rw [if_pos ⟨by unfold inR62; omega, by rw [Int.toNat_natCast]; exact hj⟩, Int.toNat_natCast]
  exact .some h
theorem e_sort {f : Nat} {a : Ex} (h : Ok (evE cf a r S) fun p => Ok (sortR (cf f) p.1 p.2) Q) : Ok (evE cf (.sortK f a) r S) Q := by
  unfold evE
  exact h.bind
end
section
variable {cf : CallF} {r : Env} {S : Store} {Q : List D × Store → Prop} {B : Bool × Store → Prop} {Z : Its × Store → Prop}
theorem l_nil (h : Q ([], S)) : Ok (evL cf .nil r S) Q := by
  unfold evL
  exact .some h
theorem l_cons {e : Ex} {es : Exs} (h : Ok (evE cf e r S) fun p => Ok (evL cf es r p.2) fun q => Q (p.1 :: q.1, q.2)) : Ok (evL cf (.cons e es) r S) Q := by
  unfold evL
  exact (h.mono fun p h => (h.mono fun q h => Ok.some h).bind).bind
theorem b_and {a b : Tx} (h : Ok (evB cf a r S) fun p => if p.1 = true then Ok (evB cf b r p.2) B else B (false, p.2)) : Ok (evB cf (.and a b) r S) B := by
  unfold evB
  refine (h.mono fun p h => ?_).bind
  split
  · rename_i c; rw [if_pos c] at h; exact h
  · rename_i c; rw [if_neg c] at h; exact .some h
theorem b_or {a b : Tx} (h : Ok (evB cf a r S) fun p => if p.1 = true then B (true, p.2) else Ok (evB cf b r p.2) B) : Ok (evB cf (.or a b) r S) B := by
  unfold evB
  refine (h.mono fun p h => ?_).bind
  split
  · rename_i c; rw [if_pos c] at h; exact .some h
  · rename_i c; rw [if_neg c] at h; exact h
theorem b_not {a : Tx} (h : Ok (evB cf a r S) fun p => B (!p.1, p.2)) : Ok (evB cf (.not a) r S) B := by
  unfold evB
  exact (h.mono fun p h => Ok.some h).bind
theorem b_cmp {o : Cm} {a b : Ex} (h : Ok (evE cf a r S) fun p => Ok (evE cf b r p.2) fun q => Ok (cmR o p.1 q.1 q.2) fun c => B (c, q.2)) : Ok (evB cf (.cmp o a b) r S) B := by
  unfold evB
  exact (h.mono fun p h => (h.mono fun q h => h.map).bind).bind
theorem b_val {e : Ex} (h : Ok (evE cf e r S) fun p => Ok (truR p.1 p.2) fun c => B (c, p.2)) : Ok (evB cf (.val e) r S) B := by
  unfold evB
  exact (h.mono fun p h => h.map).bind
theorem b_yes (h : B (true, S)) : Ok (evB cf .yes r S) B := by
  unfold evB
  exact .some h
theorem i_ex {e : Ex} (h : Ok (evE cf e r S) fun p => Ok (itSeq p.1 p.2) fun i => Z (i, p.2)) : Ok (evI cf (.ex e) r S) Z := by
  unfold evI
  exact (h.mono fun p h => h.map).bind
theorem i_enum {e : Ex} (h : Ok (evE cf e r S) fun p => Ok (itEnum p.1 p.2) fun i => Z (i, p.2)) : Ok (evI cf (.enum e) r S) Z := by
  unfold evI
  exact (h.mono fun p h => h.map).bind
theorem i_rng {e : Ex} (h : Ok (evE cf e r S) fun p => ∃ j : Nat, p.1 = .int j ∧ j < 2 ^ 62 ∧ Z (⟨rngD 0 j, none⟩, p.2)) : Ok (evI cf (.rng1 e) r S) Z := by
  unfold evI
  refine (h.mono fun p h => ?_).bind
  obtain ⟨j, e, hj, h⟩ := h
  rw [e]
  dsimp only
  rw [if_pos (by unfold inR62; omega), Int.toNat_natCast]
  exact .some h
theorem i_rng2 {a b : Ex} (h : Ok (evE cf a r S) fun p => Ok (evE cf b r p.2) fun q => ∃ i j : Nat, p.1 = .int i ∧ q.1 = .int j ∧ i < 2 ^ 62 ∧ j < 2 ^ 62 ∧ Z (⟨rngD i (j - i), none⟩, q.2)) : Ok (evI cf (.rng2 a b) r S) Z := by
  unfold evI
  refine (h.mono fun p h => (h.mono fun q h => ?_).bind).bind
  obtain ⟨i, j, e1, e2, hi, hj, h⟩ := h
  rw [e1, e2]
  dsimp only
  have : ((j : Int) - (i : Int)).toNat = j - i := by omega
  rw [if_pos ⟨by unfold inR62; omega, by unfold inR62; omega⟩, this]
  exact .some h
end

/-! ### comprehensions -/
inductive Outs (rel : D → Option D → Prop) : List D → List D → Prop
  | nil : Outs rel [] []
  | skip {x : D} {xs ys : List D} : rel x none → Outs rel xs ys → Outs rel (x :: xs) ys
  | take {x y : D} {xs ys : List D} : rel x (some y) → Outs rel xs ys → Outs rel (x :: xs) (y :: ys)
theorem outs_filter {b : D → Bool} {f : D → D} : ∀ {xs ys : List D}, Outs (fun x o => o = if b x = true then some (f x) else none) xs ys → ys = (xs.filter b).map f
  | _, _, .nil => rfl
  | x :: xs, ys, .skip h t => by
    rw [outs_filter t]
    cases e : b x with
    | true => rw [e] at h; cases h
    | false => simp [e]
  | x :: xs, _, .take (ys := ys) h t => by
    rw [outs_filter t]
    cases e : b x with
    | true => rw [e, if_pos rfl] at h; cases h; simp [e]
    | false => rw [e] at h; cases h
theorem outs_len {rel : D → Option D → Prop} : ∀ {xs ys : List D}, Outs rel xs ys → ys.length ≤ xs.length
  | _, _, .nil => Nat.le_refl _
  | _, _, .skip _ t => Nat.le_succ_of_le (outs_len t)
  | _, _, .take _ t => Nat.succ_le_succ (outs_len t)
theorem outs_map {rel : D → Option D → Prop} {f : D → D} (h : ∀ x o, rel x o → o = some (f x)) {xs ys : List D} (t : Outs rel xs ys) : ys = xs.map f := by
  induction t with
  | nil => rfl
  | skip r _ _ => have := h _ _ r; cases this
  | take r _ ih => have := h _ _ r; cases this; rw [ih]; rfl

/-- the loop of a comprehension: its cell is n, behind the store S0 -/
theorem comp_loop2 {tg : Tg} {g : Option (Nat × List D)} {turn : Env → Store → Option Store} {r : Env} {W : List Nat} {S0 : Store} {P : Store → Prop} {rel : D → Option D → Prop} (hW : ∀ n, n ∈ W → n < S0.length) (hg : ∀ S, Ext W S0 S → okG g S)
    (hP : ∀ S S', (∀ n, n < S0.length → S'[n]? = S[n]?) → S.length ≤ S'.length → P S → P S')
    {Q : Store → Prop} : ∀ (items : List D) (step : ∀ x, x ∈ items → ∀ S acc, Ext W S0 S → P S → S[S0.length]? = some acc → acc.length < sizeLine → ∃ r1, bindT tg x r = some r1 ∧ Ok (turn r1 S) fun S' => Ext W S0 S' ∧ P S' ∧ ∃ o, rel x o ∧ S'[S0.length]? = some (match o with
      | some y => acc ++ [y]
      | none => acc)) (S : Store) (acc : List D), Ext W S0 S → P S → S[S0.length]? = some acc → acc.length + items.length ≤ sizeLine →
      (∀ S' ys, Ext W S0 S' → P S' → S'[S0.length]? = some (acc ++ ys) → Outs rel items ys → Q S') → Ok (compLoop tg g turn r items S) Q
  | [], _, S, acc, hx, hp, ha, _, fin => by
    unfold compLoop
    rw [if_pos (hg S hx)]
    exact .some (fin S [] hx hp (by rw [List.append_nil]; exact ha) .nil)
  | x :: items, step, S, acc, hx, hp, ha, hl, fin => by
    unfold compLoop
    rw [if_pos (hg S hx)]
    rw [List.length_cons] at hl
    obtain ⟨r1, e1, S1, e2, hx1, hp1, o, ho, ha1⟩ := step x List.mem_cons_self S acc hx hp ha (by omega)
    rw [e1]
    dsimp only
    rw [e2]
    dsimp only
    cases o with
    | none => exact comp_loop2 hW hg hP items (fun y hy => step y (List.mem_cons_of_mem _ hy)) S1 acc hx1 hp1 ha1 (by omega) fun S' ys a b c d => fin S' ys a b c (.skip ho d)
    | some y => exact comp_loop2 hW hg hP items (fun y hy => step y (List.mem_cons_of_mem _ hy)) S1 (acc ++ [y]) hx1 hp1 ha1 (by simp; omega) fun S' ys a b c d => fin S' (y :: ys) a b (by rw [c]; simp) (.take ho d)
theorem comp1_ok {cf : CallF} {tg : Tg} {it : Itr} {c : Tx} {e : Ex} {own : List Nat} {r : Env} {S : Store} {Q : D × Store → Prop} (W : List Nat) (P : Store → Prop) (rel : D → Option D → Prop)
    (h : Ok (evI cf it r S) fun p => (∀ n, n ∈ W → n < p.2.length) ∧ (∀ n xs, p.1.guard = some (n, xs) → p.2[n]? = some xs ∧ n ∉ W) ∧ p.1.items.length ≤ sizeLine ∧ P p.2 ∧
      (∀ S1 S2, (∀ n, n < p.2.length → S2[n]? = S1[n]?) → S1.length ≤ S2.length → P S1 → P S2) ∧
      (∀ x, x ∈ p.1.items → ∃ r1, bindT tg x (wipeE r own) = some r1 ∧ ∀ S2, Ext W p.2 S2 → P S2 → Ok (evB cf c r1 S2) fun q => if q.1 = true then Ok (evE cf e r1 q.2) fun u => Ext W S2 u.2 ∧ P u.2 ∧ rel x (some u.1) else Ext W S2 q.2 ∧ P q.2 ∧ rel x none) ∧
      ∀ S' ys, Ext W p.2 S' → P S' → S'[p.2.length]? = some ys → Outs rel p.1.items ys → Q (.ref p.2.length, S')) : Ok (evE cf (.comp1 tg it c e own) r S) Q := by
  unfold evE
  refine (h.mono fun p h => ?_).bind
  obtain ⟨hW, hG, hl, hp, hP, step, fin⟩ := h
  have main : ∀ (items : List D), (∀ x, x ∈ items → x ∈ p.1.items) → items.length ≤ sizeLine → (∀ S' ys, Ext W p.2 S' → P S' → S'[p.2.length]? = some ys → Outs rel items ys → Q (.ref p.2.length, S')) → Ok (compLoop tg p.1.guard (fun r1 S1 => (evB cf c r1 S1).bind fun q => if q.1 = true then (evE cf e r1 q.2).bind fun u => appD p.2.length u.1 u.2 else some q.2) (wipeE r own) items (p.2 ++ [[]])) fun S2 => Q (.ref p.2.length, S2) := by
    intro items hi hl' fin'
    have hS0 : Ext W p.2 (p.2 ++ [[]]) := Ext.push
    refine comp_loop2 (W := W) (S0 := p.2) (P := P) (rel := rel) hW (fun S hx => ?_) hP items (fun x hx S acc hxS hpS ha hlt => ?_) (p.2 ++ [[]]) [] hS0 (hP _ _ (fun n hn => List.getElem?_append_left hn) (by simp) hp) at_push (by simpa using hl') fun S' ys a b c d => fin' S' ys a b (by simpa using c) d
    · cases hgd : p.1.guard with
      | none => trivial
      | some q =>
        obtain ⟨n, xs⟩ := q
        obtain ⟨h1, h2⟩ := hG n xs hgd
        exact hx.at h1 h2
    · obtain ⟨r1, e1, hs⟩ := step x (hi x hx)
      refine ⟨r1, e1, ?_⟩
      have nW : p.2.length ∉ W := fun z => absurd (hW _ z) (Nat.lt_irrefl _)
      refine ((hs S hxS hpS).mono fun q hq => ?_).bind
      split
      · rename_i c
        rw [if_pos c] at hq
        refine (hq.mono fun u hu => ?_).bind
        obtain ⟨u1, u2, u3⟩ := hu
        have ha2 := u1.at ha nW
        unfold appD
        rw [ha2]
        dsimp only
        rw [if_pos hlt]
        refine .some ⟨(hxS.trans u1).far (Nat.le_refl _), hP _ _ (fun n hn => List.getElem?_set_ne (by omega)) (by simp) u2, some u.1, u3, ?_⟩
        rw [List.getElem?_set_self (lt_at ha2)]
      · rename_i c
        rw [if_neg c] at hq
        exact .some ⟨hxS.trans hq.1, hq.2.1, none, hq.2.2, hq.1.at ha nW⟩
  exact ((main p.1.items (fun x h => h) hl fin).mono fun S2 h => Ok.some h).bind
end Ev

set_option Elab.async false
set_option linter.all false
set_option maxRecDepth 100000
set_option maxHeartbeats 1000000
namespace Ev
open PySem PySem.Spec

/-! ### whole numbers from 0 on -/
abbrev dN (n : Nat) : D := .int (n : Int)
theorem and_nat (a b : Nat) : Builtin.bitAnd (a : Int) (b : Int) = ((a &&& b : Nat) : Int) := by
  unfold Builtin.bitAnd
  have h1 : decide (0 ≤ (a : Int)) = true := by simp
  have h2 : decide (0 ≤ (b : Int)) = true := by simp
  rw [h1, h2]
  simp
theorem or_nat (a b : Nat) : Builtin.bitOr (a : Int) (b : Int) = ((a ||| b : Nat) : Int) := by
  have n1 : ∀ c : Nat, Builtin.bitNot (Builtin.bitNot (c : Int)) = c := fun c => by unfold Builtin.bitNot; omega
  have n2 : ∀ c : Nat, decide (0 ≤ Builtin.bitNot (c : Int)) = false := fun c => by unfold Builtin.bitNot; simp; omega
  unfold Builtin.bitOr Builtin.bitAnd
  rw [n2 a, n2 b]
  dsimp only
  rw [n1, n1, n1]
  simp
section
variable {S : Store} {Q : D × Store → Prop}
theorem o_shl {a t : Nat} (ha : a < 2 ^ 64) (ht : t ≤ 1000000) (h : Q (dN (a * 2 ^ t), S)) : Ok (opR .shl (dN a) (dN t) S) Q := by
  refine .of (a := (dN (a * 2 ^ t), S)) ?_ h
  unfold opR intOp
  dsimp only
  rw [if_pos (by unfold L2.CPow; omega)]
  simp
theorem o_shl1 {t : Nat} (ht : t ≤ 1000000) (h : Q (dN (2 ^ t), S)) : Ok (opR .shl (.int 1) (dN t) S) Q := o_shl (a := 1) (by decide) ht (by rw [Nat.one_mul]; exact h)
theorem o_shr {a t : Nat} (h : Q (dN (a / 2 ^ t), S)) : Ok (opR .shr (dN a) (dN t) S) Q := by
  refine .of (a := (dN (a / 2 ^ t), S)) ?_ h
  unfold opR intOp
  dsimp only
  rw [if_pos (by omega)]
  simp
theorem o_and {a b : Nat} (h : Q (dN (a &&& b), S)) : Ok (opR .band (dN a) (dN b) S) Q := .of (a := (dN (a &&& b), S)) (by unfold opR intOp; dsimp only; rw [and_nat]; rfl) h
theorem o_or {a b : Nat} (h : Q (dN (a ||| b), S)) : Ok (opR .bor (dN a) (dN b) S) Q := .of (a := (dN (a ||| b), S)) (by unfold opR intOp; dsimp only; rw [or_nat]; rfl) h
theorem o_add {a b : Nat} (h : Q (dN (a + b), S)) : Ok (opR .add (dN a) (dN b) S) Q := .of (a := (dN (a + b), S)) (by unfold opR intOp; dsimp only; simp) h
theorem o_sub {a b : Nat} (hb : b ≤ a) (h : Q (dN (a - b), S)) : Ok (opR .sub (dN a) (dN b) S) Q := .of (a := (dN (a - b), S)) (by unfold opR intOp; dsimp only; simp; omega) h
theorem o_mod {a b : Nat} (hb : 0 < b) (h : Q (dN (a % b), S)) : Ok (opR .mod (dN a) (dN b) S) Q := .of (a := (dN (a % b), S)) (by unfold opR intOp; dsimp only; rw [if_pos (by omega)]; simp) h
theorem o_div {a b : Nat} (hb : 0 < b) (hb2 : b < 1073741824) (h : Q (dN (a / b), S)) : Ok (opR .fdiv (dN a) (dN b) S) Q := .of (a := (dN (a / b), S)) (by unfold opR intOp; dsimp only; rw [if_pos (by unfold L2.CDiv; omega)]; simp) h
theorem o_mul {a b : Nat} (hb : b < 2 ^ 64) (h : Q (dN (a * b), S)) : Ok (opR .mul (dN a) (dN b) S) Q := .of (a := (dN (a * b), S)) (by unfold opR intOp; dsimp only; rw [if_pos (by unfold L2.CMul; omega)]; simp) h
end
theorem c_int {o : Cm} {a b : Int} {S : Store} {Q : Bool → Prop} (p : Bool) (e : cmR o (.int a) (.int b) S = some p) (h : Q p) : Ok (cmR o (.int a) (.int b) S) Q := .of e h
section
variable {S : Store} {Q : Bool → Prop} {a b : Nat}
theorem c_eq (h : Q (decide (a = b))) : Ok (cmR .eq (dN a) (dN b) S) Q := .of (by unfold cmR eqR; dsimp only; congr 1; exact decide_eq_decide.mpr (by omega)) h
theorem c_ne (h : Q (!decide (a = b))) : Ok (cmR .ne (dN a) (dN b) S) Q := .of (by unfold cmR eqR; dsimp only [Option.map]; congr 2; exact decide_eq_decide.mpr (by omega)) h
theorem c_lt (h : Q (decide (a < b))) : Ok (cmR .lt (dN a) (dN b) S) Q := .of (by unfold cmR; dsimp only; congr 1; exact decide_eq_decide.mpr (by omega)) h
theorem c_gt (h : Q (decide (b < a))) : Ok (cmR .gt (dN a) (dN b) S) Q := .of (by unfold cmR; dsimp only; congr 1; exact decide_eq_decide.mpr (by omega)) h
theorem c_ge (h : Q (decide (b ≤ a))) : Ok (cmR .ge (dN a) (dN b) S) Q := .of (by unfold cmR; dsimp only; congr 1; exact decide_eq_decide.mpr (by omega)) h
theorem t_nat (h : Q (decide (a ≠ 0))) : Ok (truR (dN a) S) Q := by
  refine .of (a := decide (a ≠ 0)) ?_ h
  show some ((a : Int) != 0) = _
  congr 1
  by_cases z : a = 0
  · subst z; rfl
  · have : ¬ ((a : Int) = 0) := by omega
    simp [z, this]
end
theorem bits_nat (a : Nat) : Builtin.Int.intBits (a : Int) = if a = 0 then 0 else a.log2 + 1 := by
  unfold Builtin.Int.intBits
  by_cases z : a = 0
  · subst z; rfl
  · have : ¬ ((a : Int) == 0) = true := by simp; omega
    rw [if_neg this, if_neg z]
    simp
theorem rng_nat (n : Nat) : rngD 0 n = (List.range n).map dN := by
  unfold rngD
  refine List.map_congr_left fun i _ => ?_
  rw [Int.zero_add]
theorem rng_nat2 (a n : Nat) : rngD a n = (List.range n).map fun i => dN (a + i) := by
  unfold rngD
  refine List.map_congr_left fun i _ => ?_
  simp

/-! ### comprehensions whose parts only look -/
section
variable {cf : CallF} {tg : Tg} {it : Itr} {c : Tx} {e : Ex} {own : List Nat} {r : Env} {S : Store} {Q : D × Store → Prop}
theorem comp1_pure (b : D → Bool) (f : D → D) (h : Ok (evI cf it r S) fun p => (∀ n xs, p.1.guard = some (n, xs) → p.2[n]? = some xs) ∧ p.1.items.length ≤ sizeLine ∧
      (∀ x, x ∈ p.1.items → ∃ r1, bindT tg x (wipeE r own) = some r1 ∧ ∀ S2, Ext [] p.2 S2 → Ok (evB cf c r1 S2) fun q => q.1 = b x ∧ Ext [] S2 q.2 ∧ (b x = true → Ok (evE cf e r1 q.2) fun u => u.1 = f x ∧ Ext [] q.2 u.2)) ∧
      ∀ S', Ext [] p.2 S' → S'[p.2.length]? = some ((p.1.items.filter b).map f) → Q (.ref p.2.length, S')) : Ok (evE cf (.comp1 tg it c e own) r S) Q := by
  refine comp1_ok [] (fun _ => True) (fun x o => o = if b x = true then some (f x) else none) (h.mono fun p h => ?_)
  obtain ⟨h1, h2, h3, h4⟩ := h
  refine ⟨fun n z => absurd z List.not_mem_nil, fun n xs z => ⟨h1 n xs z, List.not_mem_nil⟩, h2, trivial, fun _ _ _ _ _ => trivial, fun x hx => ?_, fun S' ys a _ c d => h4 S' a (by rw [← outs_filter d]; exact c)⟩
  obtain ⟨r1, e1, k⟩ := h3 x hx
  refine ⟨r1, e1, fun S2 hS _ => (k S2 hS).mono fun q hq => ?_⟩
  obtain ⟨q1, q2, q3⟩ := hq
  split
  · rename_i cc
    rw [cc] at q1
    refine (q3 q1.symm).mono fun u hu => ⟨q2.trans hu.2, trivial, ?_⟩
    rw [← q1, if_pos rfl, hu.1]
  · rename_i cc
    refine ⟨q2, trivial, ?_⟩
    rw [← q1, if_neg cc]
/-- .. of numbers from 0 on, without a test -/
theorem comp1_map (f : D → D) (h : Ok (evI cf it r S) fun p => (∀ n xs, p.1.guard = some (n, xs) → p.2[n]? = some xs) ∧ p.1.items.length ≤ sizeLine ∧
      (∀ x, x ∈ p.1.items → ∃ r1, bindT tg x (wipeE r own) = some r1 ∧ ∀ S2, Ext [] p.2 S2 → Ok (evE cf e r1 S2) fun u => u.1 = f x ∧ Ext [] S2 u.2) ∧
      ∀ S', Ext [] p.2 S' → S'[p.2.length]? = some (p.1.items.map f) → Q (.ref p.2.length, S')) : Ok (evE cf (.comp1 tg it .yes e own) r S) Q := by
  refine comp1_pure (fun _ => true) f (h.mono fun p h => ?_)
  obtain ⟨h1, h2, h3, h4⟩ := h
  refine ⟨h1, h2, fun x hx => ?_, fun S' a b => h4 S' a (by rw [List.filter_eq_self.mpr fun _ _ => rfl] at b; exact b)⟩
  obtain ⟨r1, e1, k⟩ := h3 x hx
  exact ⟨r1, e1, fun S2 hS => b_yes ⟨rfl, .refl, fun _ => k S2 hS⟩⟩
end
/-- tuple(a list that has just been made) -/
theorem bi_tuple {n : Nat} {xs : List D} {S : Store} {Q : D × Store → Prop} (e : S[n]? = some xs) (h : Q (.tup xs, S)) : Ok (biR .tuple [.ref n] S) Q := .of (a := (.tup xs, S)) (by unfold biR seqOf; dsimp only; rw [e]; rfl) h
theorem bi_len {d : D} {xs : List D} {S : Store} {Q : D × Store → Prop} (e : seqOf S d = some xs) (h : Q (dN xs.length, S)) : Ok (biR .len [d] S) Q := .of (a := (dN xs.length, S)) (by unfold biR; dsimp only; rw [e]; rfl) h
theorem bi_list {d : D} {xs : List D} {S : Store} {Q : D × Store → Prop} (e : seqOf S d = some xs) (h : Q (.ref S.length, S ++ [xs])) : Ok (biR .list [d] S) Q := .of (a := (.ref S.length, S ++ [xs])) (by unfold biR; dsimp only; rw [e]; rfl) h
theorem it_tup {xs : List D} {S : Store} {Q : Its → Prop} (h : Q ⟨xs, none⟩) : Ok (itSeq (.tup xs) S) Q := .of rfl h
theorem it_ref {n : Nat} {xs : List D} {S : Store} {Q : Its → Prop} (e : S[n]? = some xs) (h : Q ⟨xs, some (n, xs)⟩) : Ok (itSeq (.ref n) S) Q := .of (a := ⟨xs, some (n, xs)⟩) (by unfold itSeq; dsimp only; rw [e]; rfl) h
theorem it_enum {n : Nat} {xs : List D} {S : Store} {Q : Its → Prop} (e : S[n]? = some xs) (h : Q ⟨enumD xs, some (n, xs)⟩) : Ok (itEnum (.ref n) S) Q := .of (a := ⟨enumD xs, some (n, xs)⟩) (by unfold itEnum; dsimp only; rw [e]; rfl) h
theorem ix_nat {d : D} {xs : List D} {x : D} {i : Nat} {S : Store} {Q : D → Prop} (e : seqOf S d = some xs) (e2 : xs[i]? = some x) (h : Q x) : Ok (ixR d (dN i) S) Q := by
  refine .of (a := x) ?_ h
  unfold ixR
  rw [e]
  dsimp only
  unfold L2.atI L2.ixN
  have hi : i < xs.length := (List.getElem?_eq_some_iff.mp e2).1
  rw [List.getElem?_eq_getElem hi] at e2
  simp [hi]
  exact Option.some.inj e2
end Ev

set_option Elab.async false
set_option linter.all false
set_option maxRecDepth 100000
set_option maxHeartbeats 1000000
namespace Ev
open PySem PySem.Spec
/-- a loop that puts several items on each turn -/
theorem comp_loopN {tg : Tg} {g : Option (Nat × List D)} {turn : Env → Store → Option Store} {r : Env} {S0 : Store} {f : D → List D} (hg : ∀ S, Ext [] S0 S → okG g S) {Q : Store → Prop} : ∀ (items : List D)
    (step : ∀ x, x ∈ items → ∀ S acc, Ext [] S0 S → S[S0.length]? = some acc → acc.length + (f x).length ≤ sizeLine → ∃ r1, bindT tg x r = some r1 ∧ Ok (turn r1 S) fun S' => Ext [] S0 S' ∧ S'[S0.length]? = some (acc ++ f x))
    (S : Store) (acc : List D), Ext [] S0 S → S[S0.length]? = some acc → acc.length + (items.flatMap f).length ≤ sizeLine → (∀ S', Ext [] S0 S' → S'[S0.length]? = some (acc ++ items.flatMap f) → Q S') → Ok (compLoop tg g turn r items S) Q
  | [], _, S, acc, hx, ha, _, fin => by
    unfold compLoop
    rw [if_pos (hg S hx)]
    exact .some (fin S hx (by simpa using ha))
  | x :: items, step, S, acc, hx, ha, hl, fin => by
    unfold compLoop
    rw [if_pos (hg S hx)]
    rw [List.flatMap_cons, List.length_append] at hl
    obtain ⟨r1, e1, S1, e2, hx1, ha1⟩ := step x List.mem_cons_self S acc hx ha (by omega)
    rw [e1]
    dsimp only
    rw [e2]
    dsimp only
    refine comp_loopN hg items (fun y hy => step y (List.mem_cons_of_mem _ hy)) S1 (acc ++ f x) hx1 ha1 (by rw [List.length_append]; omega) fun S' a c => fin S' a ?_
    rw [c, List.flatMap_cons, List.append_assoc]
theorem comp2_map {cf : CallF} {tg tg1 : Tg} {it it1 : Itr} {e : Ex} {own own1 : List Nat} {r : Env} {S : Store} {Q : D × Store → Prop} (f : D → List D)
    (h : Ok (evI cf it r S) fun p => (∀ n xs, p.1.guard = some (n, xs) → p.2[n]? = some xs) ∧ (p.1.items.flatMap f).length ≤ sizeLine ∧
      (∀ x, x ∈ p.1.items → ∃ r1, bindT tg x (wipeE r own) = some r1 ∧ ∃ (items1 : List D) (g1 : Option (Nat × List D)) (f1 : D → D), (∀ S2, Ext [] p.2 S2 → Ok (evI cf it1 r1 S2) fun q => q.1 = ⟨items1, g1⟩ ∧ Ext [] S2 q.2) ∧
        (∀ n xs, g1 = some (n, xs) → p.2[n]? = some xs) ∧ items1.map f1 = f x ∧ ∀ y, y ∈ items1 → ∃ r2, bindT tg1 y (wipeE r1 own1) = some r2 ∧ ∀ S3, Ext [] p.2 S3 → Ok (evE cf e r2 S3) fun u => u.1 = f1 y ∧ Ext [] S3 u.2) ∧
      ∀ S', Ext [] p.2 S' → S'[p.2.length]? = some (p.1.items.flatMap f) → Q (.ref p.2.length, S')) : Ok (evE cf (.comp2 tg it .yes tg1 it1 .yes e own own1) r S) Q := by
  unfold evE
  refine (h.mono fun p h => ?_).bind
  obtain ⟨hG, hl, step, fin⟩ := h
  have nW : ∀ n : Nat, n ∉ ([] : List Nat) := fun n => List.not_mem_nil
  have okOf : ∀ (g : Option (Nat × List D)), (∀ n xs, g = some (n, xs) → p.2[n]? = some xs) → ∀ S, Ext [] p.2 S → okG g S := fun g hgg S hx => by
    cases g with
    | none => trivial
    | some q => exact hx.at (hgg q.1 q.2 rfl) (nW _)
  refine ((comp_loopN (S0 := p.2) (f := f) (okOf _ hG) p.1.items (fun x hx S acc hxS ha hlen => ?_) (p.2 ++ [[]]) [] .push at_push (by simpa using hl) fun S' a c => Ok.some (fin S' a (by simpa using c)))).bind
  obtain ⟨r1, e1, items1, g1, f1, hI, hg1, hm, hs⟩ := step x hx
  refine ⟨r1, e1, (b_yes ?_).bind⟩
  rw [if_pos rfl]
  refine ((hI S hxS).mono fun q hq => ?_).bind
  obtain ⟨hq1, hq2⟩ := hq
  rw [hq1]
  refine comp_loop2 (W := []) (S0 := p.2) (P := fun _ => True) (rel := fun y o => o = some (f1 y)) (fun n z => absurd z (nW n)) (okOf g1 hg1) (fun _ _ _ _ _ => trivial) items1 (fun y hy S2 acc2 hx2 _ ha2 hlt => ?_) q.2 acc (hxS.trans hq2) trivial (hq2.at ha (nW _)) (by have z := congrArg List.length hm; rw [List.length_map] at z; omega) fun S' ys a _ c d => ?_
  · obtain ⟨r2, e2, k⟩ := hs y hy
    refine ⟨r2, e2, (b_yes ?_).bind⟩
    rw [if_pos rfl]
    refine ((k S2 hx2).mono fun u hu => ?_).bind
    have ha3 := hu.2.at ha2 (nW _)
    unfold appD
    rw [ha3]
    dsimp only
    rw [if_pos hlt]
    refine .some ⟨(hx2.trans hu.2).far (Nat.le_refl _), trivial, some u.1, by rw [hu.1], ?_⟩
    rw [List.getElem?_set_self (lt_at ha3)]
  · refine ⟨a, ?_⟩
    rw [c, outs_map (f := f1) (fun _ _ z => z) d, hm]
end Ev

set_option Elab.async false
set_option linter.all false
set_option maxRecDepth 100000
namespace Lots

/-! ### rows of numbers that go up -/
abbrev Up (l : List Nat) : Prop := l.Pairwise (· < ·)
theorem up_ext : ∀ {l l' : List Nat}, Up l → Up l' → (∀ x, x ∈ l ↔ x ∈ l') → l = l'
  | [], [], _, _, _ => rfl
  | [], y :: l', _, _, h => absurd ((h y).mpr List.mem_cons_self) List.not_mem_nil
  | x :: l, [], _, _, h => absurd ((h x).mp List.mem_cons_self) List.not_mem_nil
  | x :: l, y :: l', a, b, h => by
    have a1 := List.pairwise_cons.mp a
    have b1 := List.pairwise_cons.mp b
    have e : x = y := by
      rcases List.mem_cons.mp ((h x).mp List.mem_cons_self) with e | e
      · exact e
      · rcases List.mem_cons.mp ((h y).mpr List.mem_cons_self) with e2 | e2
        · exact e2.symm
        · have := a1.1 y e2
          have := b1.1 x e
          omega
    subst e
    congr 1
    refine up_ext a1.2 b1.2 fun z => ⟨fun hz => ?_, fun hz => ?_⟩
    · rcases List.mem_cons.mp ((h z).mp (List.mem_cons_of_mem _ hz)) with e | e
      · have := a1.1 z hz; omega
      · exact e
    · rcases List.mem_cons.mp ((h z).mpr (List.mem_cons_of_mem _ hz)) with e | e
      · have := b1.1 z hz; omega
      · exact e
theorem up_range (n : Nat) : Up (List.range n) := List.pairwise_lt_range
theorem up_filter {l : List Nat} (p : Nat → Bool) (h : Up l) : Up (l.filter p) := h.filter p

/-! ### masks and lots -/
def lotN (m : Nat) : List Nat := (List.range (m.log2 + 1)).filter fun i => m.testBit i
def maskL (l : List Nat) : Nat := l.foldl (fun a t => a ||| 2 ^ t) 0
theorem bit_lt {m i : Nat} (h : m.testBit i = true) : i < m.log2 + 1 := by
  have h1 : 2 ^ i ≤ m := Nat.ge_two_pow_of_testBit h
  have h2 : m ≠ 0 := by
    have : 0 < 2 ^ i := Nat.two_pow_pos i
    omega
  have := (Nat.le_log2 h2).mpr h1
  omega
theorem bit_lt_of {m w i : Nat} (hm : m < 2 ^ w) (h : m.testBit i = true) : i < w := by
  have h1 : 2 ^ i ≤ m := Nat.ge_two_pow_of_testBit h
  exact (Nat.pow_lt_pow_iff_right (by decide)).mp (Nat.lt_of_le_of_lt h1 hm)
theorem mem_lotN {m i : Nat} : i ∈ lotN m ↔ m.testBit i = true := by
  unfold lotN
  rw [List.mem_filter, List.mem_range]
  exact ⟨fun h => h.2, fun h => ⟨bit_lt h, h⟩⟩
theorem up_lotN (m : Nat) : Up (lotN m) := up_filter _ (up_range _)
theorem lotN_to {m w : Nat} (h : m < 2 ^ w) : lotN m = (List.range w).filter fun i => m.testBit i := by
  refine up_ext (up_lotN m) (up_filter _ (up_range _)) fun i => ?_
  rw [mem_lotN, List.mem_filter, List.mem_range]
  exact ⟨fun z => ⟨bit_lt_of h z, z⟩, fun z => z.2⟩
theorem fold_bit (i : Nat) : ∀ (l : List Nat) (a : Nat), (l.foldl (fun a t => a ||| 2 ^ t) a).testBit i = (a.testBit i || decide (i ∈ l))
  | [], a => by simp
  | t :: l, a => by
    rw [List.foldl_cons, fold_bit i l, Nat.testBit_or, Nat.testBit_two_pow]
    by_cases h : t = i
    · subst h; simp
    · have h2 : ¬ i = t := fun e => h e.symm
      simp [h, h2]
theorem bit_maskL (l : List Nat) (i : Nat) : (maskL l).testBit i = decide (i ∈ l) := by
  unfold maskL
  rw [fold_bit]
  simp
theorem maskL_lotN (m : Nat) : maskL (lotN m) = m := by
  refine Nat.eq_of_testBit_eq fun i => ?_
  rw [bit_maskL]
  cases h : m.testBit i with
  | true => exact decide_eq_true (mem_lotN.mpr h)
  | false => exact decide_eq_false fun z => by rw [mem_lotN, h] at z; cases z
theorem lotN_maskL {l : List Nat} (h : Up l) : lotN (maskL l) = l := by
  refine up_ext (up_lotN _) h fun i => ?_
  rw [mem_lotN, bit_maskL]
  exact decide_eq_true_iff
theorem lotN_inj {a b : Nat} (h : lotN a = lotN b) : a = b := by rw [← maskL_lotN a, ← maskL_lotN b, h]
theorem mask_lt {m w : Nat} (h : ∀ i, m.testBit i = true → i < w) : m < 2 ^ w := by
  refine Nat.lt_pow_two_of_testBit m fun i hi => ?_
  cases e : m.testBit i with
  | false => rfl
  | true => have := h i e; omega
theorem maskL_lt {l : List Nat} {w : Nat} (h : ∀ i, i ∈ l → i < w) : maskL l < 2 ^ w := mask_lt fun i hi => h i (by rw [bit_maskL] at hi; exact of_decide_eq_true hi)
theorem full_bit {w i : Nat} : (2 ^ w - 1).testBit i = decide (i < w) := Nat.testBit_two_pow_sub_one w i
/-- part of -/
theorem sub_iff {a b : Nat} : a &&& b = a ↔ ∀ i, a.testBit i = true → b.testBit i = true := by
  constructor
  · intro h i hi
    have : (a &&& b).testBit i = a.testBit i := by rw [h]
    rw [Nat.testBit_and, hi, Bool.true_and] at this
    exact this
  · intro h
    refine Nat.eq_of_testBit_eq fun i => ?_
    rw [Nat.testBit_and]
    cases e : a.testBit i with
    | false => rfl
    | true => rw [h i e]; rfl

/-! ### the order of lots -/
def lxB : List Nat → List Nat → Bool
  | [], [] => false
  | [], _ :: _ => true
  | _ :: _, [] => false
  | x :: r, y :: t => decide (x < y) || (decide (x = y) && lxB r t)
theorem lx_irr : ∀ l, lxB l l = false
  | [] => rfl
  | x :: l => by simp [lxB, lx_irr l]
theorem lx_asym : ∀ {a b : List Nat}, lxB a b = true → lxB b a = false
  | [], [], h => by cases h
  | [], _ :: _, _ => rfl
  | _ :: _, [], h => by cases h
  | x :: r, y :: t, h => by
    simp only [lxB, Bool.or_eq_true, Bool.and_eq_true, decide_eq_true_eq] at h
    simp only [lxB, Bool.or_eq_false_iff, Bool.and_eq_false_iff, decide_eq_false_iff_not]
    rcases h with h | ⟨h, h2⟩
    · exact ⟨by omega, .inl (by omega)⟩
    · exact ⟨by omega, .inr (lx_asym h2)⟩
theorem lx_total : ∀ {a b : List Nat}, lxB a b = false → lxB b a = false → a = b
  | [], [], _, _ => rfl
  | [], _ :: _, h, _ => by cases h
  | _ :: _, [], _, h => by cases h
  | x :: r, y :: t, h, h2 => by
    simp only [lxB, Bool.or_eq_false_iff, Bool.and_eq_false_iff, decide_eq_false_iff_not] at h h2
    have e : x = y := by omega
    subst e
    rcases h.2 with z | z
    · exact absurd rfl z
    · rcases h2.2 with z2 | z2
      · exact absurd rfl z2
      · rw [lx_total z z2]
theorem lx_trans : ∀ {a b c : List Nat}, lxB a b = true → lxB b c = true → lxB a c = true
  | [], [], _, h, _ => by cases h
  | [], _ :: _, [], _, h => by cases h
  | [], _ :: _, _ :: _, _, _ => rfl
  | _ :: _, [], _, h, _ => by cases h
  | _ :: _, _ :: _, [], _, h => by cases h
  | x :: r, y :: t, z :: u, h, h2 => by
    simp only [lxB, Bool.or_eq_true, Bool.and_eq_true, decide_eq_true_eq] at h h2 ⊢
    rcases h with h | ⟨h, h'⟩
    · rcases h2 with h2 | ⟨h2, _⟩
      · exact .inl (by omega)
      · exact .inl (by omega)
    · rcases h2 with h2 | ⟨h2, h2'⟩
      · exact .inl (by omega)
      · exact .inr ⟨by omega, lx_trans h' h2'⟩
/-- rows of one length, with one more each -/
theorem lx_snoc : ∀ {a b : List Nat} {s t : Nat}, a.length = b.length → lxB a b = true → lxB (a ++ [s]) (b ++ [t]) = true
  | [], [], _, _, _, h => by cases h
  | [], _ :: _, _, _, h, _ => by cases h
  | _ :: _, [], _, _, h, _ => by cases h
  | x :: r, y :: u, s, t, hl, h => by
    simp only [List.cons_append, lxB, Bool.or_eq_true, Bool.and_eq_true, decide_eq_true_eq] at h ⊢
    rcases h with h | ⟨h, h'⟩
    · exact .inl h
    · exact .inr ⟨h, lx_snoc (by simpa using hl) h'⟩
theorem lx_last : ∀ (a : List Nat) {s t : Nat}, s < t → lxB (a ++ [s]) (a ++ [t]) = true
  | [], s, t, h => by simp [lxB, h]
  | x :: a, s, t, h => by
    simp only [List.cons_append, lxB, Bool.or_eq_true, Bool.and_eq_true, decide_eq_true_eq]
    exact .inr ⟨trivial, lx_last a h⟩
/-- lots in their order: fewer things first -/
def before (a b : List Nat) : Bool := decide (a.length < b.length) || (decide (a.length = b.length) && lxB a b)
theorem before_asym {a b : List Nat} (h : before a b = true) : before b a = false := by
  simp only [before, Bool.or_eq_true, Bool.and_eq_true, decide_eq_true_eq] at h
  simp only [before, Bool.or_eq_false_iff, Bool.and_eq_false_iff, decide_eq_false_iff_not]
  rcases h with h | ⟨h, h2⟩
  · exact ⟨by omega, .inl (by omega)⟩
  · exact ⟨by omega, .inr (lx_asym h2)⟩
theorem before_irr (a : List Nat) : before a a = false := by simp [before, lx_irr]
theorem before_total {a b : List Nat} (h : before a b = false) (h2 : before b a = false) : a = b := by
  simp only [before, Bool.or_eq_false_iff, Bool.and_eq_false_iff, decide_eq_false_iff_not] at h h2
  have e : a.length = b.length := by omega
  rcases h.2 with z | z
  · exact absurd e z
  · rcases h2.2 with z2 | z2
    · exact absurd e.symm z2
    · exact lx_total z z2
theorem before_trans {a b c : List Nat} (h : before a b = true) (h2 : before b c = true) : before a c = true := by
  simp only [before, Bool.or_eq_true, Bool.and_eq_true, decide_eq_true_eq] at h h2 ⊢
  rcases h with h | ⟨h, h'⟩
  · rcases h2 with h2 | ⟨h2, _⟩
    · exact .inl (by omega)
    · exact .inl (by omega)
  · rcases h2 with h2 | ⟨h2, h2'⟩
    · exact .inl (by omega)
    · exact .inr ⟨by omega, lx_trans h' h2'⟩

/-! ### all masks, level by level -/
def bl (m : Nat) : Nat := if m = 0 then 0 else m.log2 + 1
theorem lt_bl {m i : Nat} (h : m.testBit i = true) : i < bl m := by
  unfold bl
  split
  · rename_i z; subst z; simp at h
  · exact bit_lt h
theorem bl_le {m w : Nat} (h : m < 2 ^ w) : bl m ≤ w := by
  unfold bl
  split
  · exact Nat.zero_le _
  · rename_i z
    exact (Nat.log2_lt z).mpr h
theorem lot_snoc {m t : Nat} (h : bl m ≤ t) : lotN (m ||| 2 ^ t) = lotN m ++ [t] := by
  refine up_ext (up_lotN _) ?_ fun i => ?_
  · refine List.pairwise_append.mpr ⟨up_lotN m, List.pairwise_singleton _ _, fun a ha b hb => ?_⟩
    rw [List.mem_singleton.mp hb]
    exact Nat.lt_of_lt_of_le (lt_bl (mem_lotN.mp ha)) h
  · rw [mem_lotN, Nat.testBit_or, Nat.testBit_two_pow, List.mem_append, List.mem_singleton, mem_lotN, Bool.or_eq_true, decide_eq_true_eq]
    exact ⟨fun z => z.imp id Eq.symm, fun z => z.imp id Eq.symm⟩
def nextM (n : Nat) (l : List Nat) : List Nat := l.flatMap fun m => (List.range (n - bl m)).map fun i => m ||| 2 ^ (bl m + i)
def levM (n : Nat) : Nat → List Nat
  | 0 => [0]
  | k + 1 => nextM n (levM n k)
theorem mem_next {n x : Nat} {l : List Nat} : x ∈ nextM n l ↔ ∃ m t, m ∈ l ∧ bl m ≤ t ∧ t < n ∧ x = m ||| 2 ^ t := by
  unfold nextM
  rw [List.mem_flatMap]
  constructor
  · rintro ⟨m, hm, hx⟩
    obtain ⟨i, hi, e⟩ := List.mem_map.mp hx
    rw [List.mem_range] at hi
    exact ⟨m, bl m + i, hm, by omega, by omega, e.symm⟩
  · rintro ⟨m, t, hm, h1, h2, e⟩
    refine ⟨m, hm, List.mem_map.mpr ⟨t - bl m, by rw [List.mem_range]; omega, ?_⟩⟩
    rw [e, show bl m + (t - bl m) = t by omega]
theorem lev_is {n : Nat} : ∀ {k x : Nat}, x ∈ levM n k ↔ x < 2 ^ n ∧ (lotN x).length = k
  | 0, x => by
    unfold levM
    rw [List.mem_singleton]
    constructor
    · intro h
      subst h
      exact ⟨Nat.two_pow_pos n, by decide⟩
    · intro h
      refine lotN_inj ?_
      rw [List.length_eq_zero_iff.mp h.2]
      decide
  | k + 1, x => by
    unfold levM
    rw [mem_next]
    constructor
    · rintro ⟨m, t, hm, h1, h2, rfl⟩
      obtain ⟨a, b⟩ := lev_is.mp hm
      refine ⟨Nat.or_lt_two_pow a (Nat.pow_lt_pow_right (by decide) h2), ?_⟩
      rw [lot_snoc h1, List.length_append, b]
      rfl
    · rintro ⟨h1, h2⟩
      have hx : x ≠ 0 := by
        intro z
        subst z
        have : (lotN 0).length = 0 := by decide
        omega
      have tb : x.testBit x.log2 = true := by
        rw [Nat.testBit_eq_decide_div_mod_eq, decide_eq_true_eq]
        have a1 : 2 ^ x.log2 ≤ x := Nat.log2_self_le hx
        have a2 : x < 2 ^ (x.log2 + 1) := Nat.lt_log2_self
        rw [Nat.pow_succ] at a2
        have a3 : x / 2 ^ x.log2 = 1 := by
          refine Nat.div_eq_of_lt_le (by omega) (by omega)
        rw [a3]
      have bm : ∀ i, (x % 2 ^ x.log2).testBit i = (decide (i < x.log2) && x.testBit i) := fun i => Nat.testBit_mod_two_pow x x.log2 i
      have lb : bl (x % 2 ^ x.log2) ≤ x.log2 := bl_le (Nat.mod_lt _ (Nat.two_pow_pos _))
      have e : x = x % 2 ^ x.log2 ||| 2 ^ x.log2 := by
        refine Nat.eq_of_testBit_eq fun i => ?_
        rw [Nat.testBit_or, bm, Nat.testBit_two_pow]
        by_cases c : i < x.log2
        · have c2 : ¬ x.log2 = i := by omega
          simp [c, c2]
        · by_cases c2 : x.log2 = i
          · subst c2
            simp [tb]
          · have : x.testBit i = false := by
              cases q : x.testBit i with
              | false => rfl
              | true => have := bit_lt q; omega
            simp [c, c2, this]
      have hl : x.log2 < n := (Nat.log2_lt hx).mpr h1
      refine ⟨x % 2 ^ x.log2, x.log2, lev_is.mpr ⟨Nat.lt_of_le_of_lt (Nat.mod_le _ _) h1, ?_⟩, lb, hl, e⟩
      have := congrArg List.length (lot_snoc lb)
      rw [← e, List.length_append, h2] at this
      simpa using this.symm
theorem next_order {n : Nat} {l : List Nat} {k : Nat} (hl : ∀ m, m ∈ l → (lotN m).length = k) (h : l.Pairwise fun a b => lxB (lotN a) (lotN b) = true) : (nextM n l).Pairwise fun a b => lxB (lotN a) (lotN b) = true := by
  unfold nextM
  rw [List.pairwise_flatMap]
  refine ⟨fun m hm => ?_, ?_⟩
  · rw [List.pairwise_map]
    refine (up_range (n - bl m)).imp fun {i j} hij => ?_
    rw [lot_snoc (by omega), lot_snoc (by omega)]
    exact lx_last _ (by omega)
  · refine h.imp_of_mem fun {a b} ha hb hab x hx y hy => ?_
    obtain ⟨i, _, rfl⟩ := List.mem_map.mp hx
    obtain ⟨j, _, rfl⟩ := List.mem_map.mp hy
    rw [lot_snoc (by omega), lot_snoc (by omega)]
    exact lx_snoc (by rw [hl a ha, hl b hb]) hab
theorem lev_order (n : Nat) : ∀ k, (levM n k).Pairwise fun a b => lxB (lotN a) (lotN b) = true
  | 0 => List.pairwise_singleton _ _
  | k + 1 => next_order (fun m hm => (lev_is.mp hm).2) (lev_order n k)
def ordM (n k : Nat) : List Nat := (List.range k).flatMap (levM n)
theorem ordM_succ (n k : Nat) : ordM n (k + 1) = ordM n k ++ levM n k := by
  unfold ordM
  rw [List.range_succ, List.flatMap_append]
  simp
theorem ordM_order (n k : Nat) : (ordM n k).Pairwise fun a b => before (lotN a) (lotN b) = true := by
  unfold ordM
  rw [List.pairwise_flatMap]
  refine ⟨fun j _ => ?_, (up_range k).imp fun {i j} hij x hx y hy => ?_⟩
  · refine (lev_order n j).imp_of_mem fun {a b} ha hb hab => ?_
    simp only [before, Bool.or_eq_true, Bool.and_eq_true, decide_eq_true_eq]
    exact .inr ⟨by rw [(lev_is.mp ha).2, (lev_is.mp hb).2], hab⟩
  · simp only [before, Bool.or_eq_true, Bool.and_eq_true, decide_eq_true_eq]
    exact .inl (by rw [(lev_is.mp hx).2, (lev_is.mp hy).2]; exact hij)
theorem lot_len {n x : Nat} (h : x < 2 ^ n) : (lotN x).length ≤ n := by
  rw [lotN_to h]
  refine Nat.le_trans (List.length_filter_le _ _) ?_
  rw [List.length_range]
  exact Nat.le_refl _
def ordAll (n : Nat) : List Nat := ordM n (n + 1)
theorem mem_ordAll {n x : Nat} : x ∈ ordAll n ↔ x < 2 ^ n := by
  unfold ordAll ordM
  rw [List.mem_flatMap]
  constructor
  · rintro ⟨k, _, h⟩
    exact (lev_is.mp h).1
  · intro h
    exact ⟨(lotN x).length, by rw [List.mem_range]; have := lot_len h; omega, lev_is.mpr ⟨h, rfl⟩⟩
theorem lev_empty {n k : Nat} (h : n < k) : levM n k = [] := by
  rw [List.eq_nil_iff_forall_not_mem]
  intro x hx
  have a := lev_is.mp hx
  have := lot_len a.1
  omega
theorem ordAll_order (n : Nat) : (ordAll n).Pairwise fun a b => before (lotN a) (lotN b) = true := ordM_order n _

/-! ### sorting by (how many, which) -/
open PySem PySem.W PyProof.Rows
def keyD (l : List Nat) : PyData := .tuple [.int l.length, .tuple (l.map fun (i : Nat) => .int i)]
theorem toks_lx : ∀ (a b : List Nat) (r t : List (Int ⊕ List Nat)), lxB a b = true → lexLt itemOrd (keyToksAll (a.map fun (i : Nat) => PyData.int i) ++ r) (keyToksAll (b.map fun (i : Nat) => PyData.int i) ++ t) = true
  | [], [], _, _, h => by cases h
  | [], _ :: _, r, t, _ => by
    simp only [List.map_nil, List.map_cons, keyToksAll, List.cons_append, List.nil_append]
    rw [lex_diff (O := itemOrd) (by decide)]
    rfl
  | _ :: _, [], _, _, h => by cases h
  | x :: a, y :: b, r, t, h => by
    simp only [lxB, Bool.or_eq_true, Bool.and_eq_true, decide_eq_true_eq] at h
    simp only [List.map_cons, keyToksAll, keyToks, List.cons_append, List.nil_append]
    rw [lex_self (O := itemOrd)]
    rcases h with h | ⟨h, h2⟩
    · rw [lex_diff (O := itemOrd) (by intro z; have := Sum.inl.inj z; omega)]
      show decide ((x : Int) < (y : Int)) = true
      exact decide_eq_true (by omega)
    · subst h
      rw [lex_self (O := itemOrd)]
      exact toks_lx a b r t h2
theorem key_before {a b : List Nat} (h : before a b = true) : dataLt (keyD a) (keyD b) = true := by
  unfold dataLt keyD
  simp only [keyToks, keyToksAll, List.cons_append, List.nil_append]
  rw [lex_self (O := itemOrd)]
  simp only [before, Bool.or_eq_true, Bool.and_eq_true, decide_eq_true_eq] at h
  rcases h with h | ⟨h, h2⟩
  · rw [lex_diff (O := itemOrd) (by intro z; have := Sum.inl.inj z; omega)]
    show decide ((a.length : Int) < (b.length : Int)) = true
    exact decide_eq_true (by omega)
  · rw [h, lex_self (O := itemOrd), lex_self (O := itemOrd)]
    exact toks_lx a b _ _ h2
theorem lt_asym {x y : PyData} (h : dataLt x y = true) : dataLt y x = false := by
  cases e : dataLt y x with
  | false => rfl
  | true =>
    have := lex_trans (O := itemOrd) _ _ _ h e
    rw [lex_irrefl] at this
    cases this
theorem key_le {a b : List Nat} (h : before b a = false) : (!dataLt (keyD b) (keyD a)) = true := by
  cases e : before a b with
  | true => rw [lt_asym (key_before e)]; rfl
  | false =>
    have := before_total h e
    subst this
    unfold dataLt
    rw [lex_irrefl]
    rfl
theorem key_le_iff {a b : List Nat} : (!dataLt (keyD b) (keyD a)) = !before b a := by
  cases e : before b a with
  | true => rw [key_before e]
  | false => rw [key_le e]; rfl
/-- what has just these items, in their order, is the sorted row -/
theorem perm_sorted {α : Type} {le : α → α → Bool} (anti : ∀ a b, le a b = true → le b a = true → a = b) : ∀ {l l' : List α}, l.Perm l' → l.Pairwise (fun a b => le a b = true) → l'.Pairwise (fun a b => le a b = true) → l = l'
  | [], l', p, _, _ => by rw [p.nil_eq]
  | x :: l, [], p, _, _ => by have := p.length_eq; cases this
  | x :: l, y :: l', p, a, b => by
    have a1 := List.pairwise_cons.mp a
    have b1 := List.pairwise_cons.mp b
    have e : x = y := by
      rcases List.mem_cons.mp (p.mem_iff.mp (List.mem_cons_self (a := x) (l := l))) with e | e
      · exact e
      · rcases List.mem_cons.mp (p.mem_iff.mpr (List.mem_cons_self (a := y) (l := l'))) with e2 | e2
        · exact e2.symm
        · exact anti x y (a1.1 y e2) (b1.1 x e)
    subst e
    rw [perm_sorted anti (List.perm_cons x |>.mp p) a1.2 b1.2]
theorem perm_sorted2 {α : Type} {f : α → List Nat} : ∀ {l l' : List α}, l.Perm l' → l.Pairwise (fun a b => (!before (f b) (f a)) = true) → l'.Pairwise (fun a b => (!before (f b) (f a)) = true) → l'.Pairwise (fun a b => before (f a) (f b) = true) → l = l'
  | [], l', p, _, _, _ => by rw [p.nil_eq]
  | x :: l, [], p, _, _, _ => by have := p.length_eq; cases this
  | x :: l, y :: l', p, a, b, c => by
    have a1 := List.pairwise_cons.mp a
    have b1 := List.pairwise_cons.mp b
    have c1 := List.pairwise_cons.mp c
    have e : x = y := by
      rcases List.mem_cons.mp (p.mem_iff.mp (List.mem_cons_self (a := x) (l := l))) with e | e
      · exact e
      · rcases List.mem_cons.mp (p.mem_iff.mpr (List.mem_cons_self (a := y) (l := l'))) with e2 | e2
        · exact e2.symm
        · have z1 := a1.1 y e2
          have z2 := c1.1 x e
          rw [z2] at z1
          cases z1
    subst e
    rw [perm_sorted2 (List.perm_cons x |>.mp p) a1.2 b1.2 c1.2]
/-- a row sorted by the lots at its items; the items are told by their lots -/
theorem sort_is {α : Type} {f : α → List Nat} {xs ys : List α} (hp : xs.Perm ys) (ho : ys.Pairwise fun a b => before (f a) (f b) = true) :
    xs.mergeSort (fun a b => !dataLt (keyD (f b)) (keyD (f a))) = ys := by
  have e : (fun a b : α => !dataLt (keyD (f b)) (keyD (f a))) = fun a b => !before (f b) (f a) := by
    funext a b
    exact key_le_iff
  rw [e]
  have tr : ∀ a b c : α, (!before (f b) (f a)) = true → (!before (f c) (f b)) = true → (!before (f c) (f a)) = true := by
    intro a b c h1 h2
    simp only [Bool.not_eq_true'] at h1 h2 ⊢
    cases q : before (f c) (f a) with
    | false => rfl
    | true =>
      cases q2 : before (f a) (f b) with
      | true =>
        have := before_trans q q2
        rw [h2] at this
        cases this
      | false =>
        have e2 := before_total h1 q2
        rw [e2, q] at h2
        cases h2
  have to : ∀ a b : α, (!before (f b) (f a)) = true ∨ (!before (f a) (f b)) = true := by
    intro a b
    simp only [Bool.not_eq_true']
    cases q : before (f b) (f a) with
    | false => exact .inl rfl
    | true => exact .inr (before_asym q)
  have s1 := List.pairwise_mergeSort (le := fun a b => !before (f b) (f a)) tr (fun a b => by have := to a b; simpa using this) xs
  -- both in order: by counting along the strict order of ys
  have s2 : ys.Pairwise fun a b => (!before (f b) (f a)) = true := ho.imp fun {a b} h => by rw [before_asym h]; rfl
  have p2 := (List.mergeSort_perm xs (fun a b => !before (f b) (f a))).trans hp
  refine perm_sorted2 (f := f) p2 s1 s2 ?_
  exact ho

theorem lev_stop {n j : Nat} (h : levM n j = []) : ∀ i, levM n (j + i) = []
  | 0 => h
  | i + 1 => by
    show nextM n (levM n (j + i)) = []
    rw [lev_stop h i]
    rfl
theorem ord_stop {n j : Nat} (h : levM n j = []) : ∀ i, ordM n (j + i) = ordM n j
  | 0 => rfl
  | i + 1 => by
    show ordM n (j + i + 1) = _
    rw [ordM_succ, ord_stop h i, lev_stop h i, List.append_nil]
theorem ord_end {n j : Nat} (h : levM n j = []) (hj : j ≤ n + 1) : ordM n j = ordAll n := by
  have := ord_stop h (n + 1 - j)
  rw [show j + (n + 1 - j) = n + 1 by omega] at this
  exact this.symm
theorem nodup_len : ∀ {N : Nat} {l : List Nat}, l.Nodup → (∀ x, x ∈ l → x < N) → l.length ≤ N
  | 0, [], _, _ => Nat.le_refl _
  | 0, x :: l, _, h => absurd (h x List.mem_cons_self) (Nat.not_lt_zero _)
  | N + 1, l, hn, h => by
    by_cases hm : N ∈ l
    · have := nodup_len (N := N) (l := l.erase N) (hn.erase N) fun x hx => by
        have h1 := (List.Nodup.mem_erase_iff hn).mp hx
        have h2 := h x h1.2
        have h3 := h1.1
        omega
      rw [List.length_erase_of_mem hm] at this
      omega
    · have := nodup_len (N := N) hn fun x hx => by
        have h2 := h x hx
        have h3 : x ≠ N := fun e => hm (e ▸ hx)
        omega
      omega
theorem before_ne {α : Type} {f : α → List Nat} {l : List α} (h : l.Pairwise fun a b => before (f a) (f b) = true) : l.Nodup := h.imp fun {a b} h e => by
  rw [e, before_irr] at h
  cases h
theorem ordM_lt {n j x : Nat} (h : x ∈ ordM n j) : x < 2 ^ n := by
  unfold ordM at h
  obtain ⟨k, _, h⟩ := List.mem_flatMap.mp h
  exact (lev_is.mp h).1
theorem ordM_len (n j : Nat) : (ordM n j).length ≤ 2 ^ n := nodup_len (before_ne (f := lotN) (ordM_order n j)) fun x h => ordM_lt h
end Lots

set_option Elab.async false
set_option linter.all false
set_option maxRecDepth 100000
set_option maxHeartbeats 1000000
namespace Prog
open PySem PySem.Spec Ev Lots

/-! ### the program's defs about masks, by what their text does -/
abbrev dTn (l : List Nat) : D := .tup (l.map dN)
def bMaskOf : Sxs := (.cons (.set (.nm 1) (.cst (.int 0))) (.cons (.for (.nm 2) (.ex (.var 0)) (.cons (.set (.nm 1) (.op .bor (.var 1) (.op .shl (.cst (.int 1)) (.var 2)))) .nil)) (.cons (.ret (.var 1)) .nil)))
def bLotOf : Sxs := (.cons (.ret (.bi .tuple (.cons (.comp1 (.nm 1) (.rng1 (.bits (.var 0))) (.val (.op .band (.var 0) (.op .shl (.cst (.int 1)) (.var 1)))) (.var 1) [1]) .nil))) .nil)
def bIsIn : Sxs := (.cons (.ret (.cmp .eq (.op .band (.var 0) (.var 1)) (.var 0))) .nil)
def bAllOf : Sxs := (.cons (.ret (.op .sub (.op .shl (.cst (.int 1)) (.var 0)) (.cst (.int 1)))) .nil)
def bOrdered : Sxs := (.cons (.set (.nm 1) (.lst .nil)) (.cons (.set (.nm 2) (.lst (.cons (.cst (.int 0)) .nil))) (.cons (.whl 1000000 (.val (.var 2)) (.cons (.expr (.mt .extend (.var 1) (.cons (.var 2) .nil))) (.cons (.set (.nm 2) (.comp2 (.nm 3) (.ex (.var 2)) .yes (.nm 4) (.rng2 (.bits (.var 3)) (.var 0)) .yes (.op .bor (.var 3) (.op .shl (.cst (.int 1)) (.var 4))) [3, 4] [4])) .nil))) (.cons (.ret (.var 1)) .nil))))

section
variable {cf : CallF} {S : Store}
theorem maskOf_ok {xs : List Nat} (hx : ∀ x, x ∈ xs → x ≤ 1000000) : Ok (runDf cf ⟨3, 1, bMaskOf⟩ [dTn xs] S) fun p => p = (dN (maskL xs), S) := by
  refine run_ok rfl (ss_cons (s_set (e_cst ?_)))
  refine ss_cons (s_for (i_ex (e_var rfl (it_tup ?_))))
  refine for_ok (g := none) (fun rem r S' => S' = S ∧ ∃ (a : Nat) (ys : List Nat) (o : Option D), rem = ys.map dN ∧ r = [some (dTn xs), some (dN a), o] ∧ (∀ y, y ∈ ys → y ≤ 1000000) ∧ ys.foldl (fun a t => a ||| 2 ^ t) a = maskL xs) (fun _ _ _ _ => trivial) (fun x rem r S' h => ?_) (fun r S' h => ?_) ⟨rfl, 0, xs, none, rfl, rfl, hx, rfl⟩
  · obtain ⟨rfl, a, ys, o, e, rfl, hy, hf⟩ := h
    cases ys with
    | nil => cases e
    | cons y ys =>
      cases e
      refine ⟨_, rfl, ss_cons (s_set (e_op (e_var rfl (e_op (e_cst (e_var rfl (o_shl1 (hy y List.mem_cons_self) (o_or (ss_nil ?_)))))))))⟩
      exact ⟨rfl, _, ys, _, rfl, rfl, fun z hz => hy z (List.mem_cons_of_mem _ hz), hf⟩
  · obtain ⟨rfl, a, ys, o, e, rfl, hy, hf⟩ := h
    cases ys with
    | cons y ys => cases e
    | nil =>
      refine ss_cons (s_ret (e_var rfl ?_))
      rw [← hf]
      rfl
theorem two_bit {m t : Nat} : decide (m &&& 2 ^ t ≠ 0) = m.testBit t := by
  cases h : m.testBit t with
  | true =>
    refine decide_eq_true fun z => ?_
    have : (m &&& 2 ^ t).testBit t = true := by rw [Nat.testBit_and, h, Nat.testBit_two_pow]; simp
    rw [z] at this
    simp at this
  | false =>
    refine decide_eq_false fun z => z (Nat.eq_of_testBit_eq fun i => ?_)
    rw [Nat.testBit_and, Nat.testBit_two_pow, Nat.zero_testBit]
    by_cases c : t = i
    · subst c; simp [h]
    · simp [c]
theorem lotOf_ok {m : Nat} (hm : m < 2 ^ 60) : Ok (runDf cf ⟨2, 1, bLotOf⟩ [dN m] S) fun p => p.1 = dTn (lotN m) ∧ Ext [] S p.2 := by
  refine run_ok rfl (ss_cons (s_ret (e_bi (l_cons (comp1_pure (fun d => match d with
    | .int i => m.testBit i.toNat
    | _ => false) (fun d => d) (i_rng (e_bits (e_var rfl ⟨_, rfl, ?_⟩)))))))) 
  have hb : bl m < 2 ^ 62 := by
    have := bl_le hm
    omega
  refine ⟨bl m, by rw [bits_nat]; rfl, hb, ?_⟩
  refine ⟨fun n xs z => by (cases z), ?_, fun x hx => ?_, fun S' hS hc => l_nil (bi_tuple hc ?_)⟩
  · rw [rng_nat, List.length_map, List.length_range]
    have := bl_le hm
    show _ ≤ 2 ^ 24
    omega
  · rw [rng_nat] at hx
    obtain ⟨i, hi, rfl⟩ := List.mem_map.mp hx
    rw [List.mem_range] at hi
    have := bl_le hm
    refine ⟨_, rfl, fun S2 hS => b_val (e_op (e_var rfl (e_op (e_cst (e_var rfl (o_shl1 (by omega) (o_and (t_nat ⟨?_, .refl, fun _ => e_var rfl ⟨rfl, .refl⟩⟩))))))))⟩
    rw [two_bit]
    rfl
  · refine ⟨?_, hS⟩
    rw [rng_nat, List.map_id']
    show D.tup _ = D.tup _
    rw [List.filter_map]
    congr 2
    refine up_ext (up_filter _ (up_range _)) (up_lotN m) fun i => ?_
    rw [List.mem_filter, List.mem_range, mem_lotN]
    show i < bl m ∧ m.testBit (i : Int).toNat = true ↔ _
    rw [Int.toNat_natCast]
    exact ⟨fun z => z.2, fun z => ⟨lt_bl z, z⟩⟩
theorem isIn_ok {a b : Nat} : Ok (runDf cf ⟨2, 2, bIsIn⟩ [dN a, dN b] S) fun p => p = (.bl (decide (a &&& b = a)), S) :=
  run_ok rfl (ss_cons (s_ret (e_cmp (e_op (e_var rfl (e_var rfl (o_and (e_var rfl (c_eq rfl)))))))))
theorem allOf_ok {n : Nat} (h : n ≤ 1000000) : Ok (runDf cf ⟨1, 1, bAllOf⟩ [dN n] S) fun p => p = (dN (2 ^ n - 1), S) :=
  run_ok rfl (ss_cons (s_ret (e_op (e_op (e_cst (e_var rfl (o_shl1 h (e_cst (o_sub (b := 1) (Nat.two_pow_pos n) rfl)))))))))
end

section
variable {cf : CallF} {S : Store}
theorem mt_extend {a b : Nat} {xs zs : List D} {S : Store} {Q : D × Store → Prop} (ha : S[a]? = some xs) (hb : S[b]? = some zs) (hl : xs.length + zs.length ≤ sizeLine) (h : Q (.non, S.set a (xs ++ zs))) : Ok (mtR .extend (.ref a) [.ref b] S) Q := by
  refine .of (a := (.non, S.set a (xs ++ zs))) ?_ h
  unfold mtR
  simp only [ha, hb, if_pos hl]
theorem t_list {a : Nat} {xs : List D} {S : Store} {Q : Bool → Prop} (ha : S[a]? = some xs) (h : Q (!xs.isEmpty)) : Ok (truR (.ref a) S) Q := by
  refine .of (a := !xs.isEmpty) ?_ h
  unfold truR
  simp only [ha, Option.map_some]
theorem ordered_ok {n : Nat} (hn : n ≤ 20) : Ok (runDf cf ⟨5, 1, bOrdered⟩ [dN n] S) fun p => ∃ k, p.1 = .ref k ∧ S.length ≤ k ∧ p.2[k]? = some ((ordAll n).map dN) ∧ Ext [] S p.2 := by
  refine run_ok rfl (ss_cons (s_set (e_lst (l_nil ⟨Nat.zero_le _, ?_⟩))))
  refine ss_cons (s_set (e_lst (l_cons (e_cst (l_nil ⟨(by show 1 ≤ 2 ^ 24; decide), ?_⟩)))))
  refine ss_cons (s_whl ?_)
  have big : 2 ^ n ≤ 2 ^ 20 := Nat.pow_le_pow_right (by decide) hn
  have sz : sizeLine = 2 ^ 24 := rfl
  refine whl_ok (fun k r S' => ∃ (j L : Nat) (o3 o4 : Option D), k + j = n + 1 ∧ r = [some (dN n), some (.ref S.length), some (.ref L), o3, o4] ∧ S'[S.length]? = some ((ordM n j).map dN) ∧ S'[L]? = some ((levM n j).map dN) ∧ S.length < L ∧ Ext [] S S')
    (fun k r S' h => ?_) (n := 1000000) (k := n + 1) (by omega) ⟨0, S.length + 1, none, none, rfl, ?_, ?_, ?_, Nat.lt_succ_self _, ?_⟩
  · obtain ⟨j, L, o3, o4, hk, rfl, h1, h2, h3, h4⟩ := h
    refine b_val (e_var rfl (t_list h2 ?_))
    cases hL : levM n j with
    | nil =>
      refine ss_cons (s_ret (e_var rfl ⟨S.length, rfl, Nat.le_refl _, ?_, h4⟩))
      show S'[S.length]? = _
      rw [h1, ord_end hL (by omega)]
    | cons m ms =>
      have hj : j ≤ n := by
        by_cases c : j ≤ n
        · exact c
        · rw [lev_empty (by omega)] at hL
          cases hL
      have len1 := ordM_len n (j + 1)
      have len2 := ordM_len n (j + 2)
      rw [ordM_succ, List.length_append] at len1 len2
      rw [ordM_succ, List.length_append] at len2
      show Ok (evSs cf _ _ S') _
      refine ss_cons (s_expr (e_mt (e_var rfl (l_cons (e_var rfl (l_nil (mt_extend h1 h2 ?_ ?_)))))))
      · rw [List.length_map, List.length_map]
        omega
      have h2' : (S'.set S.length ((ordM n j).map dN ++ (levM n j).map dN))[L]? = some ((levM n j).map dN) := by
        rw [List.getElem?_set_ne (by omega)]
        exact h2
      have h4' : Ext [] S (S'.set S.length ((ordM n j).map dN ++ (levM n j).map dN)) := h4.far (Nat.le_refl _)
      have h1' : (S'.set S.length ((ordM n j).map dN ++ (levM n j).map dN))[S.length]? = some ((ordM n (j + 1)).map dN) := by
        rw [List.getElem?_set_self (lt_at h1), ordM_succ, List.map_append]
      generalize hT : S'.set S.length ((ordM n j).map dN ++ (levM n j).map dN) = T at h1' h2' h4'
      refine ss_cons (s_set (comp2_map (fun d => match d with
        | .int i => ((List.range (n - bl i.toNat)).map fun t => i.toNat ||| 2 ^ (bl i.toNat + t)).map dN
        | _ => []) (i_ex (e_var rfl (it_ref h2' ?_)))))
      have hf : ((levM n j).map dN).flatMap (fun d => match d with
        | .int i => ((List.range (n - bl i.toNat)).map fun t => i.toNat ||| 2 ^ (bl i.toNat + t)).map dN
        | _ => []) = (levM n (j + 1)).map dN := by
        show _ = (nextM n (levM n j)).map dN
        unfold nextM
        rw [List.flatMap_map, List.map_flatMap]
        rfl
      refine ⟨fun n' xs z => ?_, ?_, fun x hx => ?_, fun S2 a c => ss_nil ⟨k - 1, by omega, j + 1, T.length, _, _, by omega, rfl, ?_, ?_, ?_, h4'.trans a⟩⟩
      · cases z
        exact h2'
      · show (((levM n j).map dN).flatMap _).length ≤ _
        rw [hf, List.length_map]
        omega
      · obtain ⟨m', hm', rfl⟩ := List.mem_map.mp hx
        have hb := bl_le (lev_is.mp hm').1
        refine ⟨_, rfl, (List.range (n - bl m')).map (fun i => dN (bl m' + i)), none, fun d => match d with
          | .int i => dN (m' ||| 2 ^ i.toNat)
          | _ => .non, fun S2 hS => i_rng2 (e_bits (e_var rfl ⟨_, rfl, e_var rfl ⟨bl m', n, ?_, rfl, by omega, by omega, ?_, .refl⟩⟩)), fun _ _ z => (by cases z), ?_, fun y hy => ?_⟩
        · rw [bits_nat]; rfl
        · rw [rng_nat2]
        · rw [List.map_map]
          show _ = ((List.range (n - bl ((m' : Int).toNat))).map fun t => (m' : Int).toNat ||| 2 ^ (bl ((m' : Int).toNat) + t)).map dN
          rw [Int.toNat_natCast, List.map_map]
          rfl
        · obtain ⟨i, hi, rfl⟩ := List.mem_map.mp hy
          rw [List.mem_range] at hi
          exact ⟨_, rfl, fun S3 hS => e_op (e_var rfl (e_op (e_cst (e_var rfl (o_shl1 (by omega) (o_or ⟨by rfl, .refl⟩))))))⟩
      · exact a.at h1' List.not_mem_nil
      · have c' : S2[T.length]? = some (((levM n j).map dN).flatMap _) := c
        rw [hf] at c'
        exact c'
      · have := lt_at h1'
        omega
  · show [some (dN n), _, _, _, _] = _
    simp
  · show ((S ++ [[]]) ++ [[D.int 0]])[S.length]? = some _
    simp [ordM]
  · show ((S ++ [[]]) ++ [[D.int 0]])[S.length + 1]? = some _
    have : S.length + 1 = (S ++ [[]]).length := by simp
    rw [this, at_push]
    rfl
  · exact Ext.push.trans Ext.push
end
end Prog

set_option Elab.async false
set_option linter.all false
set_option maxRecDepth 100000
namespace Lots

/-! ### meets -/
def andP (n : Nat) (rs : List Nat) (p : Nat → Bool) : Nat := rs.foldl (fun a r => if p r = true then a &&& r else a) (2 ^ n - 1)
theorem and_fold (i : Nat) (p : Nat → Bool) : ∀ (rs : List Nat) (a : Nat), (rs.foldl (fun a r => if p r = true then a &&& r else a) a).testBit i = (a.testBit i && rs.all fun r => !p r || r.testBit i)
  | [], a => by simp
  | r :: rs, a => by
    rw [List.foldl_cons, and_fold i p rs, List.all_cons]
    cases h : p r with
    | true => simp [Nat.testBit_and, Bool.and_assoc]
    | false => simp
theorem bit_andP {n i : Nat} {rs : List Nat} {p : Nat → Bool} : (andP n rs p).testBit i = (decide (i < n) && rs.all fun r => !p r || r.testBit i) := by
  unfold andP
  rw [and_fold, full_bit]
/-- what all rows have that have the lot -/
def clo (n : Nat) (rs : List Nat) (m : Nat) : Nat := andP n rs fun r => decide (m &&& r = m)
theorem bit_clo {n i m : Nat} {rs : List Nat} : (clo n rs m).testBit i = true ↔ i < n ∧ ∀ r, r ∈ rs → m &&& r = m → r.testBit i = true := by
  unfold clo
  rw [bit_andP, Bool.and_eq_true, decide_eq_true_eq, List.all_eq_true]
  refine and_congr_right fun _ => forall_congr' fun r => forall_congr' fun _ => ?_
  rw [Bool.or_eq_true, Bool.not_eq_true', decide_eq_false_iff_not]
  exact ⟨fun h c => h.resolve_left (fun z => z c), fun h => by
    by_cases c : m &&& r = m
    · exact .inr (h c)
    · exact .inl c⟩
theorem andP_lt {n : Nat} {rs : List Nat} {p : Nat → Bool} : andP n rs p < 2 ^ n := mask_lt fun i h => by
  rw [bit_andP, Bool.and_eq_true] at h
  exact of_decide_eq_true h.1
/-- the rows that have the lot and are the same from place t on -/
def near (t m r : Nat) : Bool := decide (m &&& r = m) && decide (r >>> t = m >>> t)
theorem near_iff {t m r : Nat} : near t m r = true ↔ (∀ i, m.testBit i = true → r.testBit i = true) ∧ ∀ i, t ≤ i → r.testBit i = m.testBit i := by
  unfold near
  rw [Bool.and_eq_true, decide_eq_true_eq, decide_eq_true_eq, sub_iff]
  refine and_congr_right fun _ => ⟨fun h i hi => ?_, fun h => Nat.eq_of_testBit_eq fun j => ?_⟩
  · have := congrArg (fun x : Nat => x.testBit (i - t)) h
    simp only [Nat.testBit_shiftRight] at this
    rwa [show t + (i - t) = i by omega] at this
  · rw [Nat.testBit_shiftRight, Nat.testBit_shiftRight]
    exact h _ (Nat.le_add_right t j)
def stage (n : Nat) (rs : List Nat) (t m : Nat) : Nat := andP n rs (near t m)
theorem stage_zero {n m : Nat} {rs : List Nat} (hm : m < 2 ^ n) : stage n rs 0 m = if m ∈ rs then m else 2 ^ n - 1 := by
  have key : ∀ r, near 0 m r = true ↔ r = m := fun r => by
    rw [near_iff]
    constructor
    · intro h
      exact Nat.eq_of_testBit_eq fun i => h.2 i (Nat.zero_le _)
    · intro h
      subst h
      exact ⟨fun _ z => z, fun _ _ => rfl⟩
  refine Nat.eq_of_testBit_eq fun i => ?_
  unfold stage
  rw [bit_andP]
  split
  · rename_i hr
    cases e : m.testBit i with
    | true =>
      have h1 : i < n := bit_lt_of hm e
      rw [Bool.and_eq_true, List.all_eq_true]
      refine ⟨decide_eq_true h1, fun r hrr => ?_⟩
      cases q : near 0 m r with
      | false => rfl
      | true => rw [(key r).mp q, e]; rfl
    | false =>
      rw [Bool.and_eq_false_iff]
      right
      rw [List.all_eq_false]
      refine ⟨m, hr, ?_⟩
      rw [(key m).mpr rfl, e]
      decide
  · rename_i hr
    rw [full_bit]
    have : rs.all (fun r => !near 0 m r || r.testBit i) = true := by
      rw [List.all_eq_true]
      intro r hrr
      cases q : near 0 m r with
      | false => rfl
      | true =>
        have := (key r).mp q
        subst this
        exact absurd hrr hr
    rw [this, Bool.and_true]
theorem all_congr {rs : List Nat} {p q : Nat → Bool} (h : ∀ r, r ∈ rs → p r = q r) : rs.all p = rs.all q := by
  induction rs with
  | nil => rfl
  | cons r rs ih =>
    rw [List.all_cons, List.all_cons, h r List.mem_cons_self, ih fun x hx => h x (List.mem_cons_of_mem _ hx)]
theorem bool_iff {a b : Bool} (h : a = true ↔ b = true) : a = b := by
  cases a <;> cases b <;> simp_all
theorem stage_has {n t m : Nat} {rs : List Nat} (h : m.testBit t = true) : stage n rs (t + 1) m = stage n rs t m := by
  have key : ∀ r, near (t + 1) m r = near t m r := fun r => by
    refine bool_iff ?_
    rw [near_iff, near_iff]
    refine and_congr_right fun hs => ⟨fun z i hi => ?_, fun z i hi => z i (by omega)⟩
    by_cases c : i = t
    · subst c
      rw [hs i h, h]
    · exact z i (by omega)
  have e : near (t + 1) m = near t m := funext key
  unfold stage
  rw [e]
theorem add_bit {m t : Nat} (h : m.testBit t = false) (i : Nat) : (m + 2 ^ t).testBit i = (m.testBit i || decide (t = i)) := by
  have hb : m % 2 ^ (t + 1) < 2 ^ t := by
    refine Nat.lt_pow_two_of_testBit _ fun j hj => ?_
    rw [Nat.testBit_mod_two_pow]
    by_cases c : j = t
    · subst c; rw [h, Bool.and_false]
    · have : ¬ j < t + 1 := by omega
      simp [this]
  have e0 : 2 ^ (t + 1) * (m / 2 ^ (t + 1)) + m % 2 ^ (t + 1) = m := Nat.div_add_mod m (2 ^ (t + 1))
  have p : 2 ^ (t + 1) = 2 ^ t + 2 ^ t := by rw [Nat.pow_succ]; omega
  have e1 : 2 ^ (t + 1) * (m / 2 ^ (t + 1)) + (m % 2 ^ (t + 1) + 2 ^ t) = 2 ^ (t + 1) * (m / 2 ^ (t + 1)) ||| (m % 2 ^ (t + 1) + 2 ^ t) := Nat.two_pow_add_eq_or_of_lt (by omega) _
  have e2 : 2 ^ (t + 1) * (m / 2 ^ (t + 1)) + m % 2 ^ (t + 1) = 2 ^ (t + 1) * (m / 2 ^ (t + 1)) ||| m % 2 ^ (t + 1) := Nat.two_pow_add_eq_or_of_lt (by omega) _
  have e : m + 2 ^ t = m ||| 2 ^ t := by
    rw [← Nat.add_assoc, e0, ← Nat.or_two_pow_eq_add_of_lt hb, ← Nat.or_assoc, ← e2, e0] at e1
    exact e1
  rw [e, Nat.testBit_or, Nat.testBit_two_pow]
theorem stage_lacks {n t m : Nat} {rs : List Nat} (h : m.testBit t = false) : stage n rs (t + 1) m = stage n rs t m &&& stage n rs t (m + 2 ^ t) := by
  have key : ∀ r, near (t + 1) m r = (near t m r || near t (m + 2 ^ t) r) := fun r => by
    refine bool_iff ?_
    rw [Bool.or_eq_true, near_iff, near_iff, near_iff]
    constructor
    · rintro ⟨h1, h2⟩
      cases q : r.testBit t with
      | false =>
        left
        refine ⟨h1, fun i hi => ?_⟩
        by_cases c : i = t
        · subst c; rw [q, h]
        · exact h2 i (by omega)
      | true =>
        right
        refine ⟨fun i hi => ?_, fun i hi => ?_⟩
        · rw [add_bit h, Bool.or_eq_true, decide_eq_true_eq] at hi
          rcases hi with hi | hi
          · exact h1 i hi
          · subst hi; exact q
        · rw [add_bit h]
          by_cases c : i = t
          · subst c; simp [q]
          · have c2 : ¬ t = i := fun e => c e.symm
            rw [h2 i (by omega)]
            simp [c2]
    · rintro (⟨h1, h2⟩ | ⟨h1, h2⟩)
      · exact ⟨h1, fun i hi => h2 i (by omega)⟩
      · refine ⟨fun i hi => h1 i (by rw [add_bit h, hi]; rfl), fun i hi => ?_⟩
        have c2 : ¬ t = i := by omega
        rw [h2 i (by omega), add_bit h]
        simp [c2]
  refine Nat.eq_of_testBit_eq fun i => ?_
  unfold stage
  rw [Nat.testBit_and, bit_andP, bit_andP, bit_andP]
  refine bool_iff ?_
  simp only [Bool.and_eq_true, List.all_eq_true, key]
  constructor
  · rintro ⟨a, b⟩
    refine ⟨⟨a, fun r hr => ?_⟩, a, fun r hr => ?_⟩
    · have := b r hr
      revert this
      cases near t m r <;> cases near t (m + 2 ^ t) r <;> simp
    · have := b r hr
      revert this
      cases near t m r <;> cases near t (m + 2 ^ t) r <;> simp
  · rintro ⟨⟨a, b⟩, _, c⟩
    refine ⟨a, fun r hr => ?_⟩
    have h1 := b r hr
    have h2 := c r hr
    revert h1 h2
    cases near t m r <;> cases near t (m + 2 ^ t) r <;> simp
theorem stage_last {n m : Nat} {rs : List Nat} (hm : m < 2 ^ n) (hr : ∀ r, r ∈ rs → r < 2 ^ n) : stage n rs n m = clo n rs m := by
  refine Nat.eq_of_testBit_eq fun i => ?_
  unfold stage clo
  rw [bit_andP, bit_andP]
  congr 1
  refine all_congr fun r h => ?_
  congr 2
  unfold near
  have e1 : r >>> n = 0 := by rw [Nat.shiftRight_eq_div_pow]; exact Nat.div_eq_of_lt (hr r h)
  have e2 : m >>> n = 0 := by rw [Nat.shiftRight_eq_div_pow]; exact Nat.div_eq_of_lt hm
  rw [e1, e2]
  simp
/-- closures -/
theorem clo_lt {n m : Nat} {rs : List Nat} : clo n rs m < 2 ^ n := andP_lt
theorem clo_has {n m : Nat} {rs : List Nat} (hm : m < 2 ^ n) {i : Nat} (h : m.testBit i = true) : (clo n rs m).testBit i = true := bit_clo.mpr ⟨bit_lt_of hm h, fun r _ c => sub_iff.mp c i h⟩
theorem range_set {β : Type} (N j : Nat) (f : Nat → β) (v : β) : ((List.range N).map f).set j v = (List.range N).map fun m => if m = j then v else f m := by
  refine List.ext_getElem? fun i => ?_
  by_cases hi : i < N
  · rw [List.getElem?_map, List.getElem?_range hi]
    by_cases c : j = i
    · subst c
      rw [List.getElem?_set_self (by simpa using hi)]
      simp
    · rw [List.getElem?_set_ne c, List.getElem?_map, List.getElem?_range hi]
      have : ¬ i = j := fun e => c e.symm
      simp [this]
  · rw [List.getElem?_eq_none (by simpa using hi), List.getElem?_eq_none (by simpa using hi)]
end Lots

set_option Elab.async false
set_option linter.all false
set_option maxRecDepth 100000
set_option maxHeartbeats 2000000
namespace Prog
open PySem PySem.Spec Ev Lots

def bLeast (a : Nat) : Sxs := (.cons (.set (.nm 2) (.op .mul (.lst (.cons (.call a (.cons (.var 0) .nil)) .nil)) (.op .shl (.cst (.int 1)) (.var 0)))) (.cons (.for (.nm 3) (.ex (.var 1)) (.cons (.seti (.var 2) (.var 3) (.var 3)) .nil)) (.cons (.for (.nm 4) (.rng1 (.var 0)) (.cons (.set (.nm 5) (.op .shl (.cst (.int 1)) (.var 4))) (.cons (.for (.nm 6) (.rng1 (.op .shl (.cst (.int 1)) (.var 0))) (.cons (.iff (.not (.val (.op .band (.var 6) (.var 5)))) (.cons (.seti (.var 2) (.var 6) (.op .band (.idx (.var 2) (.var 6)) (.idx (.var 2) (.op .add (.var 6) (.var 5))))) .nil) .nil) .nil)) .nil))) (.cons (.ret (.var 2)) .nil))))
section
variable {cf : CallF} {S : Store} {r : Ev.Env}
theorem s_seti {o i e : Ex} {Q : Fl → Prop} (h : Ok (evE cf e r S) fun p => Ok (evE cf o r p.2) fun q => Ok (evE cf i r q.2) fun u => ∃ n k xs, q.1 = .ref n ∧ u.1 = dN k ∧ u.2[n]? = some xs ∧ k < xs.length ∧ Q (.nx r (u.2.set n (xs.set k p.1)))) : Ok (evS cf (.seti o i e) r S) Q := by
  unfold evS
  refine (h.mono fun p h => (h.mono fun q h => (h.mono fun u h => ?_).bind).bind).bind
  obtain ⟨n, k, xs, e1, e2, e3, hk, hq⟩ := h
  rw [e1, e2]
  dsimp only
  rw [e3]
  have : L2.ixN xs.length (k : Int) = some k := by
    unfold L2.ixN
    rw [if_pos (by omega), if_pos (by omega), Int.toNat_natCast]
  dsimp only
  rw [this]
  exact .some hq
theorem rep_flat (x : D) : ∀ k, (List.replicate k [x]).flatten = List.replicate k x
  | 0 => rfl
  | k + 1 => by
    rw [List.replicate_succ, List.flatten_cons, rep_flat x k, List.replicate_succ]
    rfl
theorem o_mul_list {a k : Nat} {x : D} {S : Store} {Q : D × Store → Prop} (e : S[a]? = some [x]) (hk : k ≤ sizeLine) (h : Q (.ref S.length, S ++ [(List.range k).map fun _ => x])) : Ok (opR .mul (.ref a) (dN k) S) Q := by
  refine .of (a := (.ref S.length, S ++ [(List.range k).map fun _ => x])) ?_ h
  have sz : sizeLine = 2 ^ 24 := rfl
  unfold opR
  dsimp only
  rw [e]
  dsimp only
  rw [if_pos ⟨by omega, by omega, by rw [Int.toNat_natCast, List.length_singleton]; omega⟩, Int.toNat_natCast]
  have : (List.replicate k [x]).flatten = (List.range k).map fun _ => x := by
    rw [List.map_const', List.length_range]
    exact rep_flat x k
  rw [this]
/-- the cell that holds a value at each mask -/
abbrev cells (n : Nat) (F : Nat → Nat) : List D := (List.range (2 ^ n)).map fun m => dN (F m)
theorem cells_at {n m : Nat} {F : Nat → Nat} (h : m < 2 ^ n) : (cells n F)[m]? = some (dN (F m)) := by
  rw [List.getElem?_map, List.getElem?_range h]
  rfl
theorem cells_set {n j v : Nat} {F : Nat → Nat} : (cells n F).set j (dN v) = cells n fun m => if m = j then v else F m := by
  show ((List.range (2 ^ n)).map _).set j _ = _
  rw [range_set]
  refine List.map_congr_left fun m _ => ?_
  show (if m = j then dN v else dN (F m)) = dN (if m = j then v else F m)
  split <;> rfl
theorem cells_congr {n : Nat} {F G : Nat → Nat} (h : ∀ m, m < 2 ^ n → F m = G m) : cells n F = cells n G := List.map_congr_left fun m hm => by rw [h m (List.mem_range.mp hm)]
theorem e_of {n : Nat} {xs : List D} {S : Store} (h : S[n]? = some xs) : seqOf S (.ref n) = some xs := h
theorem least_ok {a n R : Nat} {rs : List Nat} (hn : n ≤ 20) (hr : ∀ r, r ∈ rs → r < 2 ^ n) (hR : S[R]? = some (rs.map dN)) (hA : ∀ S, Ok (cf a [dN n] S) fun p => p = (dN (2 ^ n - 1), S)) :
    Ok (runDf cf ⟨7, 2, bLeast a⟩ [dN n, .ref R] S) fun p => ∃ k, p.1 = .ref k ∧ S.length ≤ k ∧ p.2[k]? = some (cells n (clo n rs)) ∧ Ext [] S p.2 := by
  have big : 2 ^ n ≤ 2 ^ 20 := Nat.pow_le_pow_right (by decide) hn
  have sz : sizeLine = 2 ^ 24 := rfl
  refine run_ok rfl (ss_cons (s_set (e_op (e_lst (l_cons (e_call (l_cons (e_var rfl (l_nil ((hA S).mono fun p hp => ?_)))))))))) 
  subst hp
  refine l_nil ⟨(by show 1 ≤ 2 ^ 24; decide), e_op (e_cst (e_var rfl (o_shl1 (by omega) (o_mul_list at_push (by omega) ?_))))⟩
  generalize hT : (S ++ [[dN (2 ^ n - 1)]]) = T
  have hST : Ext [] S T := by rw [← hT]; exact .push
  have hc0 : (T ++ [(List.range (2 ^ n)).map fun _ => dN (2 ^ n - 1)])[T.length]? = some (cells n fun _ => 2 ^ n - 1) := at_push
  have hk : S.length ≤ T.length := hST.len
  have hRl := lt_at hR
  -- the rows
  refine ss_cons (s_for (i_ex (e_var rfl (it_ref (Ext.at (hST.trans .push) hR List.not_mem_nil) ?_))))
  refine for_ok (g := some (R, rs.map dN)) (fun rem r S' => ∃ (dn ys : List Nat) (o3 o4 o5 o6 : Option D), rs = dn ++ ys ∧ rem = ys.map dN ∧ r = [some (dN n), some (.ref R), some (.ref T.length), o3, o4, o5, o6] ∧ Ext [] S S' ∧ S'[T.length]? = some (cells n fun m => if m ∈ dn then m else 2 ^ n - 1)) (fun rem r S' h => ?_) (fun x rem r S' h => ?_) (fun r S' h => ?_) ⟨[], rs, none, none, none, none, rfl, rfl, rfl, hST.trans .push, ?_⟩
  · obtain ⟨dn, ys, o3, o4, o5, o6, e1, e2, e3, e4, e5⟩ := h
    exact e4.at hR List.not_mem_nil
  · obtain ⟨dn, ys, o3, o4, o5, o6, e1, e2, rfl, e4, e5⟩ := h
    cases ys with
    | nil => cases e2
    | cons y ys =>
      cases e2
      have hy : y < 2 ^ n := hr y (by rw [e1]; simp)
      refine ⟨_, rfl, ss_cons (s_seti (e_var rfl (e_var rfl (e_var rfl ⟨T.length, y, _, rfl, rfl, e5, ?_, ss_nil ?_⟩))))⟩
      · rw [List.length_map, List.length_range]; exact hy
      · refine ⟨dn ++ [y], ys, _, o4, o5, o6, by rw [e1]; simp, rfl, rfl, e4.far hk, ?_⟩
        rw [List.getElem?_set_self (lt_at e5), cells_set]
        refine congrArg some (cells_congr fun m hm => ?_)
        by_cases c : m = y
        · subst c; simp
        · simp [c]
  · obtain ⟨dn, ys, o3, o4, o5, o6, e1, e2, rfl, e4, e5⟩ := h
    cases ys with
    | cons y ys => cases e2
    | nil =>
      rw [List.append_nil] at e1
      subst e1
      have e6 : S'[T.length]? = some (cells n (stage n rs 0)) := by
        rw [e5]
        exact congrArg some (cells_congr fun m hm => (stage_zero hm).symm)
      -- the things
      refine ss_cons (s_for (i_rng (e_var rfl ⟨n, rfl, by omega, ?_⟩)))
      refine for_ok (g := none) (fun rem r S' => ∃ (t : Nat) (o3 o4 o5 o6 : Option D), t ≤ n ∧ rem = (rngD 0 n).drop t ∧ r = [some (dN n), some (.ref R), some (.ref T.length), o3, o4, o5, o6] ∧ Ext [] S S' ∧ S'[T.length]? = some (cells n (stage n rs t))) (fun _ _ _ _ => trivial) (fun x rem r S' h => ?_) (fun r S' h => ?_) ⟨0, o3, o4, o5, o6, Nat.zero_le _, rfl, rfl, e4, e6⟩
      · obtain ⟨t, o3, o4, o5, o6, ht, f2, rfl, f4, f5⟩ := h
        have htn : t < n := by
          have := congrArg List.length f2
          rw [List.length_cons, List.length_drop, rng_nat, List.length_map, List.length_range] at this
          omega
        have hl : t < (rngD 0 n).length := by rw [rng_nat, List.length_map, List.length_range]; exact htn
        rw [List.drop_eq_getElem_cons hl] at f2
        obtain ⟨f3, f6⟩ := List.cons.inj f2
        have f7 : x = dN t := by
          rw [f3]
          simp [rng_nat]
        subst f7
        refine ⟨_, rfl, ss_cons (s_set (e_op (e_cst (e_var rfl (o_shl1 (by omega) ?_)))))⟩
        refine ss_cons (s_for (i_rng (e_op (e_cst (e_var rfl (o_shl1 (by omega) ⟨2 ^ n, rfl, by omega, ?_⟩))))))
        refine for_ok (g := none) (fun rem r S' => ∃ (j : Nat) (o6 : Option D), j ≤ 2 ^ n ∧ rem = (rngD 0 (2 ^ n)).drop j ∧ r = [some (dN n), some (.ref R), some (.ref T.length), o3, some (dN t), some (dN (2 ^ t)), o6] ∧ Ext [] S S' ∧ S'[T.length]? = some (cells n fun m => if m < j then stage n rs (t + 1) m else stage n rs t m)) (fun _ _ _ _ => trivial) (fun x rem r S' h => ?_) (fun r S' h => ?_) ⟨0, _, Nat.zero_le _, rfl, rfl, f4, ?_⟩
        · obtain ⟨j, o6, hj, g2, rfl, g4, g5⟩ := h
          have hj2 : j < 2 ^ n := by
            have := congrArg List.length g2
            rw [List.length_cons, List.length_drop, rng_nat, List.length_map, List.length_range] at this
            omega
          have hl2 : j < (rngD 0 (2 ^ n)).length := by rw [rng_nat, List.length_map, List.length_range]; exact hj2
          rw [List.drop_eq_getElem_cons hl2] at g2
          obtain ⟨g3, g6⟩ := List.cons.inj g2
          have g7 : x = dN j := by
            rw [g3]
            simp [rng_nat]
          subst g7
          have st : ∀ {S2 : Store}, Ext [] S S2 → S2[T.length]? = some (cells n fun m => if m < j + 1 then stage n rs (t + 1) m else stage n rs t m) → ∃ (j' : Nat) (o6 : Option D), j' ≤ 2 ^ n ∧ rem = (rngD 0 (2 ^ n)).drop j' ∧ [some (dN n), some (.ref R), some (.ref T.length), o3, some (dN t), some (dN (2 ^ t)), some (dN j)] = [some (dN n), some (.ref R), some (.ref T.length), o3, some (dN t), some (dN (2 ^ t)), o6] ∧ Ext [] S S2 ∧ S2[T.length]? = some (cells n fun m => if m < j' then stage n rs (t + 1) m else stage n rs t m) :=
            fun a b => ⟨j + 1, _, hj2, g6, rfl, a, b⟩
          refine ⟨_, rfl, ss_cons (s_if (b_not (b_val (e_op (e_var rfl (e_var rfl (o_and (t_nat ?_))))))))⟩
          rw [two_bit]
          cases hb : j.testBit t with
          | true =>
            refine ss_nil (ss_nil (st g4 ?_))
            rw [g5]
            refine congrArg some (cells_congr fun m _ => ?_)
            by_cases c : m = j
            · subst c
              rw [if_neg (Nat.lt_irrefl _), if_pos (Nat.lt_succ_self _), stage_has hb]
            · by_cases c2 : m < j
              · rw [if_pos c2, if_pos (by omega)]
              · rw [if_neg c2, if_neg (by omega)]
          | false =>
            have hlt : j + 2 ^ t < 2 ^ n := mask_lt fun i hi => by
              rw [add_bit hb, Bool.or_eq_true, decide_eq_true_eq] at hi
              rcases hi with hi | hi
              · exact bit_lt_of hj2 hi
              · omega
            have h2t : 0 < 2 ^ t := Nat.two_pow_pos t
            refine ss_cons (s_seti (e_op (e_idx (e_var rfl (e_var rfl (ix_nat (e_of g5) (cells_at hj2) (e_idx (e_var rfl (e_op (e_var rfl (e_var rfl (o_add (ix_nat (e_of g5) (cells_at hlt) (o_and (e_var rfl (e_var rfl ⟨T.length, j, _, rfl, rfl, g5, ?_, ss_nil ?_⟩))))))))))))))))
            · rw [List.length_map, List.length_range]; exact hj2
            · refine ss_nil (st (g4.far hk) ?_)
              rw [List.getElem?_set_self (lt_at g5), cells_set]
              refine congrArg some (cells_congr fun m _ => ?_)
              have c9 : ¬ j + 2 ^ t < j := by omega
              by_cases c : m = j
              · subst c
                rw [if_pos rfl, if_neg (Nat.lt_irrefl _), if_neg c9, if_pos (Nat.lt_succ_self _), stage_lacks hb]
              · rw [if_neg c]
                by_cases c2 : m < j
                · rw [if_pos c2, if_pos (by omega)]
                · rw [if_neg c2, if_neg (by omega)]
        · obtain ⟨j, o6, hj, g2, rfl, g4, g5⟩ := h
          have hj2 : j = 2 ^ n := by
            have := congrArg List.length g2
            rw [List.length_nil, List.length_drop, rng_nat, List.length_map, List.length_range] at this
            omega
          subst hj2
          refine ss_nil ?_
          refine ⟨t + 1, _, _, _, _, htn, f6, rfl, g4, ?_⟩
          rw [g5]
          exact congrArg some (cells_congr fun m hm => by rw [if_pos hm])
        · rw [f5]
          rfl
      · obtain ⟨t, o3, o4, o5, o6, ht, f2, rfl, f4, f5⟩ := h
        have htn : t = n := by
          have := congrArg List.length f2
          rw [List.length_nil, List.length_drop, rng_nat, List.length_map, List.length_range] at this
          omega
        subst htn
        refine ss_cons (s_ret (e_var rfl ⟨T.length, rfl, hk, ?_, f4⟩))
        rw [f5]
        exact congrArg some (cells_congr fun m hm => stage_last hm hr)
  · rw [hc0]
    exact congrArg some (cells_congr fun m _ => by simp)
end
end Prog

set_option Elab.async false
set_option linter.all false
set_option maxRecDepth 100000
set_option maxHeartbeats 2000000
namespace Lots
/-- the places of the rows that have a lot -/
def having (rs : List Nat) (m : Nat) : List Nat := (List.range rs.length).filter fun i => decide (m &&& rs.getD i 0 = m)
def meetAt (n : Nat) (rs ps : List Nat) : Nat := ps.foldl (fun a i => a &&& rs.getD i 0) (2 ^ n - 1)
theorem mem_having {rs : List Nat} {m i : Nat} : i ∈ having rs m ↔ i < rs.length ∧ m &&& rs.getD i 0 = m := by
  unfold having
  rw [List.mem_filter, List.mem_range, decide_eq_true_eq]
theorem up_having (rs : List Nat) (m : Nat) : Up (having rs m) := up_filter _ (up_range _)
theorem meet_fold (i : Nat) (rs : List Nat) : ∀ (ps : List Nat) (a : Nat), (ps.foldl (fun a i => a &&& rs.getD i 0) a).testBit i = (a.testBit i && ps.all fun p => (rs.getD p 0).testBit i)
  | [], a => by simp
  | p :: ps, a => by
    rw [List.foldl_cons, meet_fold i rs ps, List.all_cons, Nat.testBit_and, Bool.and_assoc]
theorem bit_meetAt {n i : Nat} {rs ps : List Nat} : (meetAt n rs ps).testBit i = true ↔ i < n ∧ ∀ p, p ∈ ps → (rs.getD p 0).testBit i = true := by
  unfold meetAt
  rw [meet_fold, full_bit, Bool.and_eq_true, decide_eq_true_eq, List.all_eq_true]
theorem meetAt_lt {n : Nat} {rs ps : List Nat} : meetAt n rs ps < 2 ^ n := mask_lt fun i h => (bit_meetAt.mp h).1
theorem getD_mem {rs : List Nat} {i : Nat} (h : i < rs.length) : rs.getD i 0 ∈ rs := by
  rw [List.getD_eq_getElem?_getD, List.getElem?_eq_getElem h]
  exact List.getElem_mem h
theorem mem_getD {rs : List Nat} {r : Nat} (h : r ∈ rs) : ∃ i, i < rs.length ∧ rs.getD i 0 = r := by
  obtain ⟨i, hi, e⟩ := List.mem_iff_getElem.mp h
  exact ⟨i, hi, by rw [List.getD_eq_getElem?_getD, List.getElem?_eq_getElem hi]; exact e⟩
/-- the least meet that has a lot is told by the places -/
theorem clo_having (n : Nat) (rs : List Nat) (m : Nat) : meetAt n rs (having rs m) = clo n rs m := by
  refine Nat.eq_of_testBit_eq fun i => bool_iff ?_
  rw [bit_meetAt, bit_clo]
  refine and_congr_right fun _ => ⟨fun h r hr hm => ?_, fun h p hp => ?_⟩
  · obtain ⟨j, hj, rfl⟩ := mem_getD hr
    exact h j (mem_having.mpr ⟨hj, hm⟩)
  · obtain ⟨h1, h2⟩ := mem_having.mp hp
    exact h _ (getD_mem h1) h2
theorem meet_rows (n : Nat) : ∀ (ps rs : List Nat) (a : Nat), (ps.map fun p => rs.getD p 0).foldl (fun a r => a &&& r) a = ps.foldl (fun a i => a &&& rs.getD i 0) a
  | [], _, _ => rfl
  | p :: ps, rs, a => by
    rw [List.map_cons, List.foldl_cons, List.foldl_cons, meet_rows n ps rs]
end Lots
namespace Prog
open PySem PySem.Spec Ev Lots

def bFixed (om lo : Nat) : Sxs := (.cons (.ret (.bi .tuple (.cons (.comp1 (.nm 2) (.ex (.call om (.cons (.var 0) .nil))) (.cmp .eq (.idx (.var 1) (.var 2)) (.var 2)) (.call lo (.cons (.var 2) .nil)) [2]) .nil))) .nil)
def bMeet (ao mo lo : Nat) : Sxs := (.cons (.set (.nm 2) (.call ao (.cons (.var 0) .nil))) (.cons (.for (.nm 3) (.ex (.var 1)) (.cons (.set (.nm 2) (.op .band (.var 2) (.call mo (.cons (.var 3) .nil)))) .nil)) (.cons (.ret (.call lo (.cons (.var 2) .nil))) .nil)))
def bAllMeets (le mo : Nat) : Sxs := (.cons (.set (.tp [1, 2]) (.var 0)) (.cons (.ret (.call le (.cons (.var 1) (.cons (.comp1 (.nm 3) (.ex (.var 2)) .yes (.call mo (.cons (.var 3) .nil)) [3]) .nil)))) .nil))
def bMeets (fi am : Nat) : Sxs := (.cons (.ret (.call fi (.cons (.idx (.var 0) (.cst (.int 0))) (.cons (.call am (.cons (.var 0) .nil)) .nil)))) .nil)
def bMeetOf (me : Nat) : Sxs := (.cons (.set (.tp [2, 3]) (.var 0)) (.cons (.ret (.call me (.cons (.var 2) (.cons (.comp1 (.nm 4) (.ex (.var 1)) .yes (.idx (.var 3) (.var 4)) [4]) .nil)))) .nil))
def bSharing (is : Nat) : Sxs := (.cons (.ret (.bi .tuple (.cons (.comp1 (.tp [2, 3]) (.enum (.var 0)) (.val (.call is (.cons (.var 1) (.cons (.var 3) .nil)))) (.var 2) [2, 3]) .nil))) .nil)
def bShared (sh mo : Nat) : Sxs := (.cons (.ret (.call sh (.cons (.comp1 (.nm 2) (.ex (.idx (.var 0) (.cst (.int 1)))) .yes (.call mo (.cons (.var 2) .nil)) [2]) (.cons (.call mo (.cons (.var 1) .nil)) .nil)))) .nil)
def bIsMeet (mt sh : Nat) : Sxs := (.cons (.ret (.cmp .eq (.call mt (.cons (.var 0) (.cons (.call sh (.cons (.var 0) (.cons (.var 1) .nil))) .nil))) (.var 1))) .nil)
def bPairs (mo ms sh : Nat) : Sxs := (.cons (.set (.nm 1) (.comp1 (.nm 2) (.ex (.idx (.var 0) (.cst (.int 1)))) .yes (.call mo (.cons (.var 2) .nil)) [2])) (.cons (.ret (.bi .tuple (.cons (.comp1 (.nm 3) (.ex (.call ms (.cons (.var 0) .nil))) .yes (.tup (.cons (.var 3) (.cons (.call sh (.cons (.var 1) (.cons (.call mo (.cons (.var 3) .nil)) .nil))) .nil))) [3]) .nil))) .nil))

/-! ### what is told of the defs that are called -/
def IsMaskOf (cf : CallF) (i : Nat) : Prop := ∀ (xs : List Nat) (S : Store), (∀ x, x ∈ xs → x ≤ 1000000) → Ok (cf i [dTn xs] S) fun p => p = (dN (maskL xs), S)
def IsLotOf (cf : CallF) (i : Nat) : Prop := ∀ (m : Nat) (S : Store), m < 2 ^ 60 → Ok (cf i [dN m] S) fun p => p.1 = dTn (lotN m) ∧ Ext [] S p.2
def IsIsIn (cf : CallF) (i : Nat) : Prop := ∀ (a b : Nat) (S : Store), Ok (cf i [dN a, dN b] S) fun p => p = (.bl (decide (a &&& b = a)), S)
def IsAllOf (cf : CallF) (i : Nat) : Prop := ∀ (n : Nat) (S : Store), n ≤ 1000000 → Ok (cf i [dN n] S) fun p => p = (dN (2 ^ n - 1), S)
def IsOrdered (cf : CallF) (i : Nat) : Prop := ∀ (n : Nat) (S : Store), n ≤ 20 → Ok (cf i [dN n] S) fun p => ∃ k, p.1 = .ref k ∧ S.length ≤ k ∧ p.2[k]? = some ((ordAll n).map dN) ∧ Ext [] S p.2
def IsLeast (cf : CallF) (i : Nat) : Prop := ∀ (n R : Nat) (rs : List Nat) (S : Store), n ≤ 20 → (∀ r, r ∈ rs → r < 2 ^ n) → S[R]? = some (rs.map dN) → Ok (cf i [dN n, .ref R] S) fun p => ∃ k, p.1 = .ref k ∧ S.length ≤ k ∧ p.2[k]? = some (cells n (clo n rs)) ∧ Ext [] S p.2
def lotsOf (n : Nat) (G : Nat → Nat) : List D := ((ordAll n).filter fun m => decide (G m = m)).map fun m => dTn (lotN m)
def IsFixed (cf : CallF) (i : Nat) : Prop := ∀ (n F : Nat) (G : Nat → Nat) (S : Store), n ≤ 20 → S[F]? = some (cells n G) → Ok (cf i [dN n, .ref F] S) fun p => p.1 = .tup (lotsOf n G) ∧ Ext [] S p.2
def IsMeet (cf : CallF) (i : Nat) : Prop := ∀ (n L : Nat) (rs : List Nat) (S : Store), n ≤ 20 → (∀ r, r ∈ rs → r < 2 ^ n) → S[L]? = some (rs.map fun r => dTn (lotN r)) → Ok (cf i [dN n, .ref L] S) fun p => p.1 = dTn (lotN (rs.foldl (fun a r => a &&& r) (2 ^ n - 1))) ∧ Ext [] S p.2
abbrev tabD (n : Nat) (rs : List Nat) : D := .tup [dN n, .tup (rs.map fun r => dTn (lotN r))]
structure Tab (n : Nat) (rs : List Nat) : Prop where
  n20 : n ≤ 20
  lt : ∀ r, r ∈ rs → r < 2 ^ n
  len : rs.length ≤ 1000
def IsAllMeets (cf : CallF) (i : Nat) : Prop := ∀ (n : Nat) (rs : List Nat) (S : Store), Tab n rs → Ok (cf i [tabD n rs] S) fun p => ∃ k, p.1 = .ref k ∧ S.length ≤ k ∧ p.2[k]? = some (cells n (clo n rs)) ∧ Ext [] S p.2
def IsMeets (cf : CallF) (i : Nat) : Prop := ∀ (n : Nat) (rs : List Nat) (S : Store), Tab n rs → Ok (cf i [tabD n rs] S) fun p => p.1 = .tup (lotsOf n (clo n rs)) ∧ Ext [] S p.2
def IsMeetOf (cf : CallF) (i : Nat) : Prop := ∀ (n : Nat) (rs ps : List Nat) (S : Store), Tab n rs → (∀ p, p ∈ ps → p < rs.length) → ps.length ≤ 1000 → Ok (cf i [tabD n rs, dTn ps] S) fun p => p.1 = dTn (lotN (meetAt n rs ps)) ∧ Ext [] S p.2
def IsSharing (cf : CallF) (i : Nat) : Prop := ∀ (R m : Nat) (rs : List Nat) (S : Store), rs.length ≤ 1000 → S[R]? = some (rs.map dN) → Ok (cf i [.ref R, dN m] S) fun p => p.1 = dTn (having rs m) ∧ Ext [] S p.2
def IsShared (cf : CallF) (i : Nat) : Prop := ∀ (n : Nat) (rs xs : List Nat) (S : Store), Tab n rs → (∀ x, x ∈ xs → x ≤ 1000000) → Ok (cf i [tabD n rs, dTn xs] S) fun p => p.1 = dTn (having rs (maskL xs)) ∧ Ext [] S p.2
def IsIsMeet (cf : CallF) (i : Nat) : Prop := ∀ (n : Nat) (rs xs : List Nat) (S : Store), Tab n rs → (∀ x, x ∈ xs → x ≤ 1000000) → Ok (cf i [tabD n rs, dTn xs] S) fun p => p.1 = .bl (decide (lotN (clo n rs (maskL xs)) = xs)) ∧ Ext [] S p.2
abbrev pairD (rs : List Nat) (m : Nat) : D := .tup [dTn (lotN m), dTn (having rs m)]
def pairsOf (n : Nat) (rs : List Nat) : List D := ((ordAll n).filter fun m => decide (clo n rs m = m)).map (pairD rs)
def IsPairs (cf : CallF) (i : Nat) : Prop := ∀ (n : Nat) (rs : List Nat) (S : Store), Tab n rs → Ok (cf i [tabD n rs] S) fun p => p.1 = .tup (pairsOf n rs) ∧ Ext [] S p.2

section
variable {cf : CallF} {S : Store} {r : Ev.Env}
theorem s_setT {tg : Tg} {e : Ex} {Q : Fl → Prop} (h : Ok (evE cf e r S) fun p => ∃ r1, bindT tg p.1 r = some r1 ∧ Q (.nx r1 p.2)) : Ok (evS cf (.set tg e) r S) Q := by
  unfold evS
  refine (h.mono fun p h => ?_).bind
  obtain ⟨r1, e1, h⟩ := h
  rw [e1]
  exact .some h
theorem ord_le {n x : Nat} (hn : n ≤ 20) (h : x ∈ ordAll n) : x < 2 ^ 20 := Nat.lt_of_lt_of_le (mem_ordAll.mp h) (Nat.pow_le_pow_right (by decide) hn)
theorem fixed_ok {om lo : Nat} (hO : IsOrdered cf om) (hL : IsLotOf cf lo) {n F : Nat} {G : Nat → Nat} (hn : n ≤ 20) (hF : S[F]? = some (cells n G)) : Ok (runDf cf ⟨3, 2, bFixed om lo⟩ [dN n, .ref F] S) fun p => p.1 = .tup (lotsOf n G) ∧ Ext [] S p.2 := by
  refine run_ok rfl (ss_cons (s_ret (e_bi (l_cons (comp1_pure (fun d => match d with
    | .int i => decide (G i.toNat = i.toNat)
    | _ => false) (fun d => match d with
    | .int i => dTn (lotN i.toNat)
    | _ => .non) (i_ex (e_call (l_cons (e_var rfl (l_nil ((hO n S hn).mono fun p hp => ?_)))))))))))
  obtain ⟨d, S1⟩ := p
  obtain ⟨k, e, hk, hc, hx⟩ := hp
  dsimp only at e hc hx ⊢
  subst e
  have big : 2 ^ n ≤ 2 ^ 20 := Nat.pow_le_pow_right (by decide) hn
  have sz : sizeLine = 2 ^ 24 := rfl
  refine it_ref hc ⟨fun n' xs z => by cases z; exact hc, ?_, fun x hx' => ?_, fun S' hS c => l_nil (bi_tuple c ⟨?_, hx.trans hS⟩)⟩
  · have := ordM_len n (n + 1)
    show ((ordAll n).map dN).length ≤ _
    rw [List.length_map]
    unfold ordAll
    omega
  · obtain ⟨m, hm, rfl⟩ := List.mem_map.mp hx'
    have hm2 := mem_ordAll.mp hm
    have hm3 := ord_le hn hm
    refine ⟨_, rfl, fun S2 hS => b_cmp (e_idx (e_var rfl (e_var rfl (ix_nat (e_of ((hx.trans hS).at hF List.not_mem_nil)) (cells_at hm2) (e_var rfl (c_eq ⟨?_, .refl, fun _ => e_call (l_cons (e_var rfl (l_nil ((hL m S2 (by omega)).mono fun p hp => ⟨?_, hp.2⟩))))⟩))))))⟩
    · simp
    · rw [hp.1]
      simp
  · show D.tup ((((ordAll n).map dN).filter _).map _) = _
    rw [List.filter_map, List.map_map]
    unfold lotsOf
    congr 1
theorem meet_ok {ao mo lo : Nat} (hA : IsAllOf cf ao) (hM : IsMaskOf cf mo) (hL : IsLotOf cf lo) {n L : Nat} {rs : List Nat} (hn : n ≤ 20) (hr : ∀ r, r ∈ rs → r < 2 ^ n) (hS : S[L]? = some (rs.map fun r => dTn (lotN r))) :
    Ok (runDf cf ⟨4, 2, bMeet ao mo lo⟩ [dN n, .ref L] S) fun p => p.1 = dTn (lotN (rs.foldl (fun a r => a &&& r) (2 ^ n - 1))) ∧ Ext [] S p.2 := by
  have big : 2 ^ n ≤ 2 ^ 20 := Nat.pow_le_pow_right (by decide) hn
  refine run_ok rfl (ss_cons (s_set (e_call (l_cons (e_var rfl (l_nil ((hA n S (by omega)).mono fun p hp => ?_)))))))
  subst hp
  refine ss_cons (s_for (i_ex (e_var rfl (it_ref hS ?_))))
  refine for_ok (g := some (L, rs.map fun r => dTn (lotN r))) (fun rem r S' => S' = S ∧ ∃ (a : Nat) (ys : List Nat) (o : Option D), rem = (ys.map fun r => dTn (lotN r)) ∧ r = [some (dN n), some (.ref L), some (dN a), o] ∧ (∀ y, y ∈ ys → y ∈ rs) ∧ a < 2 ^ n ∧ ys.foldl (fun a r => a &&& r) a = rs.foldl (fun a r => a &&& r) (2 ^ n - 1)) (fun _ _ S' h => ?_) (fun x rem r S' h => ?_) (fun r S' h => ?_) ⟨rfl, _, rs, none, rfl, rfl, fun _ z => z, ?_, rfl⟩
  · rw [h.1]; exact hS
  · obtain ⟨rfl, a, ys, o, e, rfl, hy, ha, hf⟩ := h
    cases ys with
    | nil => cases e
    | cons y ys =>
      cases e
      have hy2 := hr y (hy y List.mem_cons_self)
      refine ⟨_, rfl, ss_cons (s_set (e_op (e_var rfl (e_call (l_cons (e_var rfl (l_nil ((hM (lotN y) _ fun x hx => ?_).mono fun p hp => ?_))))))))⟩
      · have := bit_lt_of hy2 (mem_lotN.mp hx)
        omega
      · subst hp
        rw [maskL_lotN]
        refine o_and (ss_nil ?_)
        exact ⟨rfl, _, ys, _, rfl, rfl, fun z hz => hy z (List.mem_cons_of_mem _ hz), Nat.lt_of_le_of_lt Nat.and_le_left ha, hf⟩
  · obtain ⟨rfl, a, ys, o, e, rfl, hy, ha, hf⟩ := h
    cases ys with
    | cons y ys => cases e
    | nil =>
      refine ss_cons (s_ret (e_call (l_cons (e_var rfl (l_nil ((hL a _ (by omega)).mono fun p hp => ⟨?_, hp.2⟩))))))
      rw [hp.1, ← hf]
      rfl
  · have := Nat.two_pow_pos n
    omega
/-- the masks of a table's rows -/
theorem rows_ok {mo : Nat} (hM : IsMaskOf cf mo) {n i v : Nat} {rs : List Nat} {it : Itr} {own : List Nat} (T : Tab n rs) {Q : D × Store → Prop} (hI : Ok (evI cf it r S) fun p => p = (⟨rs.map fun r => dTn (lotN r), none⟩, S)) (hv : i = v) (hi : ∀ d, (((wipeE r own).set i (some d))[i]?) = some (some d))
    (h : ∀ S', Ext [] S S' → S'[S.length]? = some (rs.map dN) → Q (.ref S.length, S')) : Ok (evE cf (.comp1 (.nm i) it .yes (.call mo (.cons (.var v) .nil)) own) r S) Q := by
  subst hv
  have big : 2 ^ n ≤ 2 ^ 20 := Nat.pow_le_pow_right (by decide) T.n20
  refine comp1_map (fun d => match d with
    | .tup xs => dN (maskL (xs.map fun d => match d with
      | .int i => i.toNat
      | _ => 0))
    | _ => .non) (hI.mono fun p hp => ?_)
  subst hp
  refine ⟨fun _ _ z => (by cases z), ?_, fun x hx => ?_, fun S' hS c => h S' hS ?_⟩
  · have := T.len
    have sz : sizeLine = 2 ^ 24 := rfl
    show (rs.map _).length ≤ _
    rw [List.length_map]
    omega
  · obtain ⟨y, hy, rfl⟩ := List.mem_map.mp hx
    have hy2 := T.lt y hy
    refine ⟨_, rfl, fun S2 hS => e_call (l_cons (e_var (hi _) (l_nil ((hM (lotN y) S2 fun z hz => ?_).mono fun p hp => ?_))))⟩
    · have := bit_lt_of hy2 (mem_lotN.mp hz)
      have := T.n20
      omega
    · subst hp
      refine ⟨?_, .refl⟩
      show dN (maskL (lotN y)) = dN (maskL (((lotN y).map dN).map _))
      rw [List.map_map]
      congr 2
      exact (List.map_id' _).symm
  · rw [c]
    show some ((rs.map _).map _) = _
    rw [List.map_map]
    congr 1
    refine List.map_congr_left fun y _ => ?_
    show dN (maskL (((lotN y).map dN).map _)) = dN y
    rw [List.map_map]
    have : ((fun d => match d with
      | D.int i => i.toNat
      | _ => 0) ∘ dN) = fun x : Nat => x := by
      funext x
      simp
    rw [this, List.map_id', maskL_lotN]
end
end Prog

set_option Elab.async false
set_option linter.all false
set_option maxRecDepth 100000
set_option maxHeartbeats 2000000
namespace Prog
open PySem PySem.Spec Ev Lots
section
variable {cf : CallF} {S : Store} {r : Ev.Env}
theorem allMeets_ok {le mo : Nat} (hE : IsLeast cf le) (hM : IsMaskOf cf mo) {n : Nat} {rs : List Nat} (T : Tab n rs) : Ok (runDf cf ⟨4, 1, bAllMeets le mo⟩ [tabD n rs] S) fun p => ∃ k, p.1 = .ref k ∧ S.length ≤ k ∧ p.2[k]? = some (cells n (clo n rs)) ∧ Ext [] S p.2 := by
  refine run_ok rfl (ss_cons (s_setT (e_var rfl ⟨_, rfl, ?_⟩)))
  refine ss_cons (s_ret (e_call (l_cons (e_var rfl (l_cons (rows_ok hM T (i_ex (e_var rfl (it_tup rfl))) rfl (fun d => rfl) fun S' hS c => l_nil ?_))))))
  refine (hE n S.length rs S' T.n20 T.lt c).mono fun p hp => ?_
  obtain ⟨k, e, hk, hc, hx⟩ := hp
  exact ⟨k, e, Nat.le_trans hS.len hk, hc, hS.trans hx⟩
theorem meets_ok {fi am : Nat} (hF : IsFixed cf fi) (hA : IsAllMeets cf am) {n : Nat} {rs : List Nat} (T : Tab n rs) : Ok (runDf cf ⟨1, 1, bMeets fi am⟩ [tabD n rs] S) fun p => p.1 = .tup (lotsOf n (clo n rs)) ∧ Ext [] S p.2 := by
  refine run_ok rfl (ss_cons (s_ret (e_call (l_cons (e_idx (e_var rfl (e_cst (ix_nat (i := 0) rfl rfl (l_cons (e_call (l_cons (e_var rfl (l_nil ((hA n rs S T).mono fun p hp => ?_))))))))))))))
  obtain ⟨d, S1⟩ := p
  obtain ⟨k, e, hk, hc, hx⟩ := hp
  dsimp only at e hc hx ⊢
  subst e
  exact l_nil ((hF n k _ S1 T.n20 hc).mono fun p hp => ⟨hp.1, hx.trans hp.2⟩)
theorem meetOf_ok {me : Nat} (hM : IsMeet cf me) {n : Nat} {rs ps : List Nat} (T : Tab n rs) (hp : ∀ p, p ∈ ps → p < rs.length) (hl : ps.length ≤ 1000) : Ok (runDf cf ⟨5, 2, bMeetOf me⟩ [tabD n rs, dTn ps] S) fun p => p.1 = dTn (lotN (meetAt n rs ps)) ∧ Ext [] S p.2 := by
  have sz : sizeLine = 2 ^ 24 := rfl
  refine run_ok rfl (ss_cons (s_setT (e_var rfl ⟨_, rfl, ?_⟩)))
  refine ss_cons (s_ret (e_call (l_cons (e_var rfl (l_cons (comp1_map (fun d => match d with
    | .int i => dTn (lotN (rs.getD i.toNat 0))
    | _ => .non) (i_ex (e_var rfl (it_tup ⟨fun _ _ z => (by cases z), ?_, fun x hx => ?_, fun S' hS c => l_nil ?_⟩)))))))))
  · show (ps.map dN).length ≤ _
    rw [List.length_map]
    omega
  · obtain ⟨p, hp2, rfl⟩ := List.mem_map.mp hx
    have hlt := hp p hp2
    refine ⟨_, rfl, fun S2 hS => e_idx (e_var rfl (e_var rfl (ix_nat rfl (x := dTn (lotN (rs.getD p 0))) ?_ ⟨?_, .refl⟩)))⟩
    · rw [List.getElem?_map, List.getElem?_eq_getElem hlt, List.getD_eq_getElem?_getD, List.getElem?_eq_getElem hlt]
      rfl
    · simp
  · have e : ((ps.map dN).map fun d => match d with
        | .int i => dTn (lotN (rs.getD i.toNat 0))
        | _ => .non) = (ps.map fun p => rs.getD p 0).map fun r => dTn (lotN r) := by
      rw [List.map_map, List.map_map]
      rfl
    have c' : S'[S.length]? = some (((ps.map dN).map fun d => match d with
        | .int i => dTn (lotN (rs.getD i.toNat 0))
        | _ => .non)) := c
    rw [e] at c'
    refine (hM n S.length _ S' T.n20 (fun r hr => ?_) c').mono fun p hp => ⟨?_, hS.trans hp.2⟩
    · obtain ⟨p, hp2, rfl⟩ := List.mem_map.mp hr
      exact T.lt _ (getD_mem (hp p hp2))
    · rw [hp.1, meet_rows n]
      rfl
theorem enum_is (rs : List Nat) : enumD (rs.map dN) = (List.range rs.length).map fun i => .tup [dN i, dN (rs.getD i 0)] := by
  unfold enumD
  rw [List.length_map]
  refine List.ext_getElem? fun i => ?_
  by_cases h : i < rs.length
  · rw [List.getElem?_map, List.getElem?_range h, List.getElem?_zipWith, List.getElem?_range h, List.getElem?_map, List.getElem?_eq_getElem h]
    have : rs.getD i 0 = rs[i] := by
      rw [List.getD_eq_getElem?_getD, List.getElem?_eq_getElem h]
      rfl
    show some (D.tup [_, dN rs[i]]) = some (D.tup [dN i, dN (rs.getD i 0)])
    rw [this]
  · rw [List.getElem?_eq_none (by simp; omega), List.getElem?_eq_none (by simp; omega)]
theorem sharing_ok {is : Nat} (hI : IsIsIn cf is) {R m : Nat} {rs : List Nat} (hl : rs.length ≤ 1000) (hR : S[R]? = some (rs.map dN)) : Ok (runDf cf ⟨4, 2, bSharing is⟩ [.ref R, dN m] S) fun p => p.1 = dTn (having rs m) ∧ Ext [] S p.2 := by
  have sz : sizeLine = 2 ^ 24 := rfl
  refine run_ok rfl (ss_cons (s_ret (e_bi (l_cons (comp1_pure (fun d => match d with
    | .tup [_, .int i] => decide (m &&& i.toNat = m)
    | _ => false) (fun d => match d with
    | .tup [i, _] => i
    | _ => .non) (i_enum (e_var rfl (it_enum hR ⟨fun n xs z => (by cases z; exact hR), ?_, fun x hx => ?_, fun S' hS c => l_nil (bi_tuple c ⟨?_, hS⟩)⟩))))))))
  · show (enumD (rs.map dN)).length ≤ _
    rw [enum_is, List.length_map, List.length_range]
    omega
  · have hx' : x ∈ enumD (rs.map dN) := hx
    rw [enum_is] at hx'
    obtain ⟨i, hi, rfl⟩ := List.mem_map.mp hx'
    refine ⟨_, rfl, fun S2 hS => b_val (e_call (l_cons (e_var rfl (l_cons (e_var rfl (l_nil ((hI m (rs.getD i 0) S2).mono fun p hp => ?_)))))))⟩
    subst hp
    exact .of rfl ⟨by simp, .refl, fun _ => e_var rfl ⟨rfl, .refl⟩⟩
  · show D.tup (((enumD (rs.map dN)).filter _).map _) = _
    rw [enum_is, List.filter_map, List.map_map]
    unfold having
    first
      | rfl
      | (congr 1; done)
      | (congr 1; congr 1)
theorem shared_ok {sh mo : Nat} (hS : IsSharing cf sh) (hM : IsMaskOf cf mo) {n : Nat} {rs xs : List Nat} (T : Tab n rs) (hx : ∀ x, x ∈ xs → x ≤ 1000000) : Ok (runDf cf ⟨3, 2, bShared sh mo⟩ [tabD n rs, dTn xs] S) fun p => p.1 = dTn (having rs (maskL xs)) ∧ Ext [] S p.2 := by
  refine run_ok rfl (ss_cons (s_ret (e_call (l_cons (rows_ok hM T (i_ex (e_idx (e_var rfl (e_cst (ix_nat (i := 1) rfl rfl (it_tup rfl)))))) rfl (fun d => rfl) fun S' h1 c => l_cons (e_call (l_cons (e_var rfl (l_nil ((hM xs S' hx).mono fun p hp => ?_))))))))))
  subst hp
  exact l_nil ((hS S.length _ rs S' T.len c).mono fun p hp => ⟨hp.1, h1.trans hp.2⟩)
end

/-! ### data -/
def pN (n : Nat) : PyData := .int n
def pT (l : List Nat) : PyData := .tuple (l.map pN)
theorem dat_nats (n : Nat) (S : Store) : ∀ l : List Nat, datL n S (l.map dN) = some (l.map pN)
  | [] => by simp only [List.map_nil, datL]
  | x :: l => by simp only [List.map_cons, datL, dat, dat_nats n S l]; rfl
theorem dat_T {n : Nat} {S : Store} {l : List Nat} : dat n S (dTn l) = some (pT l) := by
  simp only [dat, dat_nats]
  rfl
theorem lay_nats : ∀ l : List Nat, PyData.canLayAll0 (l.map pN) = true
  | [] => rfl
  | x :: l => by
    rw [List.map_cons, PyData.canLayAll0, lay_nats l]
    rfl
theorem depth_nats : ∀ l : List Nat, PyData.depthAll (l.map pN) = 0
  | [] => by simp only [List.map_nil, PyData.depthAll]
  | x :: l => by
    simp only [List.map_cons, PyData.depthAll, depth_nats l, pN, PyData.depth]
    rfl
theorem shaped_T (l : List Nat) : SeqAt.shaped (pT l) = true := by
  unfold SeqAt.shaped pT
  rw [PyData.canLay0, lay_nats, PyData.depth, depth_nats]
  decide
theorem eqv_nats : ∀ a b : List Nat, PyData.eqvAll (a.map pN) (b.map pN) = decide (a = b)
  | [], [] => by simp [PyData.eqvAll]
  | [], _ :: _ => by simp [PyData.eqvAll]
  | _ :: _, [] => by simp [PyData.eqvAll]
  | x :: a, y :: b => by
    rw [List.map_cons, List.map_cons, PyData.eqvAll, eqv_nats a b]
    have : PyData.eqv (pN x) (pN y) = decide (x = y) := by
      unfold pN
      rw [PyData.eqv]
      by_cases h : x = y
      · subst h; simp
      · have : ¬ ((x : Int) = (y : Int)) := by omega
        simp [h, this]
    rw [this]
    by_cases h : x = y <;> simp [h]
theorem c_eqT {a b : List Nat} {S : Store} {Q : Bool → Prop} (h : Q (decide (a = b))) : Ok (cmR .eq (dTn a) (dTn b) S) Q := by
  refine .of (a := decide (a = b)) ?_ h
  unfold cmR eqR
  dsimp only
  rw [dat_T, dat_T]
  dsimp only
  rw [if_pos ⟨shaped_T a, shaped_T b⟩]
  unfold pT
  rw [PyData.eqv, eqv_nats]
section
variable {cf : CallF} {S : Store} {r : Ev.Env}
theorem having_lt {rs : List Nat} {m p : Nat} (h : p ∈ having rs m) : p < rs.length := (mem_having.mp h).1
theorem having_len (rs : List Nat) (m : Nat) : (having rs m).length ≤ rs.length := by
  unfold having
  refine Nat.le_trans (List.length_filter_le _ _) ?_
  rw [List.length_range]
  exact Nat.le_refl _
theorem isMeet_ok {mt sh : Nat} (hM : IsMeetOf cf mt) (hS : IsShared cf sh) {n : Nat} {rs xs : List Nat} (T : Tab n rs) (hx : ∀ x, x ∈ xs → x ≤ 1000000) : Ok (runDf cf ⟨2, 2, bIsMeet mt sh⟩ [tabD n rs, dTn xs] S) fun p => p.1 = .bl (decide (lotN (clo n rs (maskL xs)) = xs)) ∧ Ext [] S p.2 := by
  refine run_ok rfl (ss_cons (s_ret (e_cmp (e_call (l_cons (e_var rfl (l_cons (e_call (l_cons (e_var rfl (l_cons (e_var rfl (l_nil ((hS n rs xs S T hx).mono fun p hp => ?_))))))))))))))
  obtain ⟨d, S1⟩ := p
  obtain ⟨e, h1⟩ := hp
  dsimp only at e h1 ⊢
  subst e
  refine l_nil ((hM n rs (having rs (maskL xs)) S1 T (fun p => having_lt) (Nat.le_trans (having_len _ _) T.len)).mono fun p hp => ?_)
  obtain ⟨d, S2⟩ := p
  obtain ⟨e, h2⟩ := hp
  dsimp only at e h2 ⊢
  subst e
  rw [clo_having]
  exact e_var rfl (c_eqT ⟨rfl, h1.trans h2⟩)
theorem pairs_ok {mo ms sh : Nat} (hM : IsMaskOf cf mo) (hL : IsMeets cf ms) (hS : IsSharing cf sh) {n : Nat} {rs : List Nat} (T : Tab n rs) : Ok (runDf cf ⟨4, 1, bPairs mo ms sh⟩ [tabD n rs] S) fun p => p.1 = .tup (pairsOf n rs) ∧ Ext [] S p.2 := by
  have sz : sizeLine = 2 ^ 24 := rfl
  have big : 2 ^ n ≤ 2 ^ 20 := Nat.pow_le_pow_right (by decide) T.n20
  refine run_ok rfl (ss_cons (s_set (rows_ok hM T (i_ex (e_idx (e_var rfl (e_cst (ix_nat (i := 1) rfl rfl (it_tup rfl)))))) rfl (fun d => rfl) fun S1 h1 c1 => ?_)))
  refine ss_cons (s_ret (e_bi (l_cons (comp1_map (fun d => match d with
    | .tup xs => pairD rs (maskL (xs.map fun d => match d with
      | .int i => i.toNat
      | _ => 0))
    | _ => .non) (i_ex (e_call (l_cons (e_var rfl (l_nil ((hL n rs S1 T).mono fun p hp => ?_))))))))))
  obtain ⟨d, S2⟩ := p
  obtain ⟨e, h2⟩ := hp
  dsimp only at e h2 ⊢
  subst e
  have un : ∀ m : Nat, maskL (((lotN m).map dN).map fun d => match d with
      | .int i => i.toNat
      | _ => 0) = m := fun m => by
    rw [List.map_map]
    have : ((fun d => match d with
      | D.int i => i.toNat
      | _ => 0) ∘ dN) = fun x : Nat => x := by
      funext x
      simp
    rw [this, List.map_id', maskL_lotN]
  refine it_tup ⟨fun _ _ z => (by cases z), ?_, fun x hx => ?_, fun S' h3 c => l_nil (bi_tuple c ⟨?_, (h1.trans h2).trans h3⟩)⟩
  · show (lotsOf n (clo n rs)).length ≤ _
    unfold lotsOf
    rw [List.length_map]
    have a := List.length_filter_le (fun m => decide (clo n rs m = m)) (ordAll n)
    have b : (ordAll n).length ≤ 2 ^ n := ordM_len n (n + 1)
    omega
  · have hx' : x ∈ lotsOf n (clo n rs) := hx
    unfold lotsOf at hx'
    obtain ⟨m, hm, rfl⟩ := List.mem_map.mp hx'
    have hm2 := ord_le T.n20 (List.mem_filter.mp hm).1
    refine ⟨_, rfl, fun S4 h4 => e_tup (l_cons (e_var rfl (l_cons (e_call (l_cons (e_var rfl (l_cons (e_call (l_cons (e_var rfl (l_nil ((hM (lotN m) S4 fun z hz => ?_).mono fun p hp => ?_))))))))))))⟩
    · have := bit_lt_of hm2 (mem_lotN.mp hz)
      omega
    · subst hp
      rw [maskL_lotN]
      refine l_nil ((hS S.length m rs S4 T.len ((h2.trans h4).at c1 List.not_mem_nil)).mono fun p hp => l_nil ⟨(by show 2 ≤ 2 ^ 24; decide), ?_, hp.2⟩)
      rw [hp.1]
      show D.tup [_, _] = pairD rs (maskL (((lotN m).map dN).map _))
      rw [un]
  · show D.tup ((lotsOf n (clo n rs)).map _) = _
    unfold lotsOf pairsOf
    rw [List.map_map]
    congr 1
    refine List.map_congr_left fun m _ => ?_
    show pairD rs (maskL (((lotN m).map dN).map _)) = pairD rs m
    rw [un]
end
end Prog

set_option Elab.async false
set_option linter.all false
set_option maxRecDepth 100000
set_option maxHeartbeats 2000000
namespace Prog
open PySem PySem.Spec Ev Lots

/-! ### the law's source of numbers -/
def bSpring : Sxs := (.cons (.set (.nm 1) (.comp1 (.nm 2) (.ex (.sli (.var 0) .none (.some (.cst (.int 63))))) .yes (.op .add (.op .mul (.cst (.int 2)) (.bi .abs (.cons (.var 2) .nil))) (.bi .int (.cons (.cmp .lt (.var 2) (.cst (.int 0))) .nil))) [2])) (.cons (.ret (.lst (.cons (.comp1 (.nm 2) (.ex (.var 1)) (.cmp .ge (.var 2) (.op .pow (.cst (.int 10)) (.cst (.int 18)))) (.var 2) [2]) (.cons (.op .add (.var 1) (.lst (.cons (.op .add (.bi .len (.cons (.var 1) .nil)) (.cst (.int 41))) .nil))) (.cons (.bi .sum (.cons (.var 1) .nil)) (.cons (.cst (.int 0)) .nil)))))) .nil))
def bDraw : Sxs := (.cons (.set (.nm 2) (.idx (.var 0) (.cst (.int 0)))) (.cons (.iff (.cmp .ne (.var 2) (.lst .nil)) (.cons (.set (.nm 4) (.mt .pop (.var 2) .nil)) (.cons (.iff (.cmp .ge (.var 4) (.var 1)) (.cons (.expr (.mt .append (.var 2) (.cons (.op .fdiv (.var 4) (.var 1)) .nil))) .nil) .nil) (.cons (.ret (.op .mod (.bi .int (.cons (.var 4) .nil)) (.var 1))) .nil))) .nil) (.cons (.seti (.var 0) (.cst (.int 3)) (.op .add (.idx (.var 0) (.cst (.int 3))) (.cst (.int 1)))) (.cons (.set (.nm 3) (.idx (.var 0) (.cst (.int 3)))) (.cons (.set (.nm 4) (.idx (.idx (.var 0) (.cst (.int 1))) (.op .mod (.bi .int (.cons (.var 3) .nil)) (.bi .len (.cons (.idx (.var 0) (.cst (.int 1))) .nil))))) (.cons (.set (.nm 5) (.op .mod (.bi .int (.cons (.op .add (.op .add (.op .mul (.var 4) (.cst (.int 48611))) (.op .mul (.idx (.var 0) (.cst (.int 2))) (.cst (.int 7907)))) (.op .mul (.var 3) (.cst (.int 1299709)))) .nil)) (.cst (.int 2147483647)))) (.cons (.set (.nm 5) (.op .mod (.bi .int (.cons (.op .add (.op .add (.op .mul (.var 5) (.var 5)) (.op .mul (.var 3) (.cst (.int 15485863)))) (.cst (.int 5))) .nil)) (.cst (.int 2147483629)))) (.cons (.set (.nm 5) (.op .mod (.bi .int (.cons (.op .add (.op .add (.op .mul (.var 5) (.var 5)) (.var 4)) (.cst (.int 3))) .nil)) (.cst (.int 2147483587)))) (.cons (.ret (.op .mod (.bi .int (.cons (.op .fdiv (.var 5) (.cst (.int 1024))) .nil)) (.var 1))) .nil)))))))))
def bPick (dr : Nat) : Sxs := (.cons (.ret (.idx (.var 1) (.call dr (.cons (.var 0) (.cons (.bi .len (.cons (.var 1) .nil)) .nil))))) .nil)
def bSome (dr : Nat) : Sxs := (.cons (.set (.nm 3) (.cst (.int 0))) (.cons (.for (.nm 4) (.rng1 (.ite (.cmp .gt (.var 1) (.cst (.int 0))) (.var 2) (.cst (.int 0)))) (.cons (.set (.nm 3) (.op .bor (.var 3) (.op .shl (.cst (.int 1)) (.call dr (.cons (.var 0) (.cons (.var 1) .nil)))))) .nil)) (.cons (.ret (.var 3)) .nil)))

/-- the source at r, its great cells at g, the known ones at kn -/
structure Spr (r g kn : Nat) (S : Store) : Prop where
  ex : ∃ (gs ks : List Nat) (sm ct : Nat), S[r]? = some [.ref g, .ref kn, dN sm, dN ct] ∧ S[g]? = some (gs.map dN) ∧ S[kn]? = some (ks.map dN) ∧ ks ≠ [] ∧ r ≠ g ∧ r ≠ kn ∧ g ≠ kn ∧ gs.length ≤ 1000 ∧ ks.length ≤ 1000
theorem Spr.lt {r g kn : Nat} {S : Store} (h : Spr r g kn S) : r < S.length ∧ g < S.length ∧ kn < S.length := by
  obtain ⟨gs, ks, sm, ct, h1, h2, h3, _⟩ := h.ex
  exact ⟨lt_at h1, lt_at h2, lt_at h3⟩
/-- other cells may change -/
theorem Spr.mv {r g kn : Nat} {S S' : Store} (h : Spr r g kn S) (k : Ext [] S S') : Spr r g kn S' := by
  obtain ⟨gs, ks, sm, ct, h1, h2, h3, h4⟩ := h.ex
  exact ⟨gs, ks, sm, ct, k.at h1 List.not_mem_nil, k.at h2 List.not_mem_nil, k.at h3 List.not_mem_nil, h4⟩
theorem Spr.on {r g kn b : Nat} {S1 S2 : Store} (hb : ∀ n, n < b → S2[n]? = S1[n]?) (h1 : r < b) (h2 : g < b) (h3 : kn < b) (h : Spr r g kn S1) : Spr r g kn S2 := by
  obtain ⟨gs, ks, sm, ct, e1, e2, e3, h4⟩ := h.ex
  exact ⟨gs, ks, sm, ct, by rw [hb r h1]; exact e1, by rw [hb g h2]; exact e2, by rw [hb kn h3]; exact e3, h4⟩
def IsDraw (cf : CallF) (i : Nat) : Prop := ∀ (r g kn many : Nat) (S : Store), Spr r g kn S → 0 < many → many < 2 ^ 30 → Ok (cf i [.ref r, dN many] S) fun p => ∃ v, v < many ∧ p.1 = dN v ∧ Spr r g kn p.2 ∧ Ext [r, g] S p.2

theorem dat_list {n k : Nat} {S : Store} {l : List Nat} (h : S[k]? = some (l.map dN)) : dat (n + 1) S (.ref k) = some (.list (l.map pN)) := by
  simp only [dat, h, dat_nats]
  rfl
theorem shaped_L (l : List Nat) : SeqAt.shaped (.list (l.map pN)) = true := by
  unfold SeqAt.shaped
  rw [PyData.canLay0, lay_nats, PyData.depth, depth_nats]
  decide
theorem c_neL {a b : Nat} {l m : List Nat} {S : Store} {Q : Bool → Prop} (ha : S[a]? = some (l.map dN)) (hb : S[b]? = some (m.map dN)) (h : Q (!decide (l = m))) : Ok (cmR .ne (.ref a) (.ref b) S) Q := by
  refine .of (a := !decide (l = m)) ?_ h
  unfold cmR eqR
  dsimp only
  rw [dat_list ha, dat_list hb]
  dsimp only
  rw [if_pos ⟨shaped_L l, shaped_L m⟩, PyData.eqv, eqv_nats]
  rfl
theorem mt_pop {a c : Nat} {l : List Nat} {S : Store} {Q : D × Store → Prop} (ha : S[a]? = some ((l ++ [c]).map dN)) (h : Q (dN c, S.set a (l.map dN))) : Ok (mtR .pop (.ref a) [] S) Q := by
  refine .of (a := (dN c, S.set a (l.map dN))) ?_ h
  unfold mtR
  simp only [ha]
  simp
theorem mt_append {a : Nat} {xs : List D} {y : D} {S : Store} {Q : D × Store → Prop} (ha : S[a]? = some xs) (hl : xs.length < sizeLine) (h : Q (.non, S.set a (xs ++ [y]))) : Ok (mtR .append (.ref a) [y] S) Q := by
  refine .of (a := (.non, S.set a (xs ++ [y]))) ?_ h
  unfold mtR
  simp only [ha, if_pos hl]
theorem bi_int {n : Nat} {S : Store} {Q : D × Store → Prop} (h : Q (dN n, S)) : Ok (biR .int [dN n] S) Q := .of rfl h
section
variable {cf : CallF} {S : Store}
theorem last_of : ∀ {l : List Nat}, l ≠ [] → ∃ i c, l = i ++ [c] := fun {l} h => ⟨l.dropLast, l.getLast h, (List.dropLast_concat_getLast h).symm⟩
theorem draw_ok {r g kn many : Nat} (hS : Spr r g kn S) (hm : 0 < many) (hm2 : many < 2 ^ 30) : Ok (runDf cf ⟨6, 2, bDraw⟩ [.ref r, dN many] S) fun p => ∃ v, v < many ∧ p.1 = dN v ∧ Spr r g kn p.2 ∧ Ext [r, g] S p.2 := by
  have sz : sizeLine = 2 ^ 24 := rfl
  obtain ⟨gs, ks, sm, ct, h1, h2, h3, hk, n1, n2, n3, hg, hkl⟩ := hS.ex
  have lr := lt_at h1
  have lg := lt_at h2
  have lk := lt_at h3
  refine run_ok rfl (ss_cons (s_set (e_idx (e_var rfl (e_cst (ix_nat (i := 0) (e_of h1) rfl ?_))))))
  have p1 : Ext [] S (S ++ [[]]) := .push
  refine ss_cons (s_if (b_cmp (e_var rfl (e_lst (l_nil ⟨Nat.zero_le _, c_neL (m := []) (p1.at h2 List.not_mem_nil) at_push ?_⟩)))))
  by_cases hgs : gs = []
  · subst hgs
    rw [if_neg (by simp)]
    refine ss_nil ?_
    generalize hT : S ++ [[]] = T at p1
    have q1 := p1.at h1 List.not_mem_nil
    have q2 := p1.at h2 List.not_mem_nil
    have q3 := p1.at h3 List.not_mem_nil
    have l4 : 3 < [D.ref g, D.ref kn, dN sm, dN ct].length := Nat.lt_succ_self 3
    refine ss_cons (s_seti (e_op (e_idx (e_var rfl (e_cst (ix_nat (i := 3) (e_of q1) rfl (e_cst (o_add (b := 1) (e_var rfl (e_cst ⟨r, 3, _, rfl, rfl, q1, l4, ?_⟩))))))))))
    have lrT := lt_at q1
    have w1 : (T.set r [.ref g, .ref kn, dN sm, dN (ct + 1)])[r]? = some [.ref g, .ref kn, dN sm, dN (ct + 1)] := List.getElem?_set_self lrT
    have w2 : (T.set r [.ref g, .ref kn, dN sm, dN (ct + 1)])[g]? = some (([] : List Nat).map dN) := by rw [List.getElem?_set_ne n1]; exact q2
    have w3 : (T.set r [.ref g, .ref kn, dN sm, dN (ct + 1)])[kn]? = some (ks.map dN) := by rw [List.getElem?_set_ne n2]; exact q3
    have w4 : Ext [r, g] S (T.set r [.ref g, .ref kn, dN sm, dN (ct + 1)]) := p1.of_nil.trans (.set (by simp))
    show Ok (evSs cf _ _ (T.set r [.ref g, .ref kn, dN sm, dN (ct + 1)])) _
    generalize T.set r [.ref g, .ref kn, dN sm, dN (ct + 1)] = U at w1 w2 w3 w4
    have kpos : 0 < ks.length := List.length_pos_iff.mpr hk
    have hi : (ct + 1) % ks.length < ks.length := Nat.mod_lt _ kpos
    refine ss_cons (s_set (e_idx (e_var rfl (e_cst (ix_nat (i := 3) (e_of w1) rfl ?_)))))
    refine ss_cons (s_set (e_idx (e_idx (e_var rfl (e_cst (ix_nat (i := 1) (e_of w1) rfl (e_op (e_bi (l_cons (e_var rfl (l_nil (bi_int (e_bi (l_cons (e_idx (e_var rfl (e_cst (ix_nat (i := 1) (e_of w1) rfl (l_nil (bi_len (e_of w3) (o_mod (by rw [List.length_map]; exact kpos) (ix_nat (x := dN (ks.getD ((ct + 1) % ks.length) 0)) (e_of w3) ?_ ?_))))))))))))))))))))))
    · rw [List.length_map, List.getElem?_map, List.getElem?_eq_getElem hi, List.getD_eq_getElem?_getD, List.getElem?_eq_getElem hi]
      rfl
    generalize ks.getD ((ct + 1) % ks.length) 0 = c
    refine ss_cons (s_set (e_op (e_bi (l_cons (e_op (e_op (e_op (e_var rfl (e_cst (o_mul (b := 48611) (by decide) (e_op (e_idx (e_var rfl (e_cst (ix_nat (i := 2) (e_of w1) rfl (e_cst (o_mul (b := 7907) (by decide) (o_add (e_op (e_var rfl (e_cst (o_mul (b := 1299709) (by decide) (o_add (l_nil (bi_int (e_cst (o_mod (b := 2147483647) (by decide) ?_)))))))))))))))))))))))))))
    have hx1 := Nat.mod_lt (c * 48611 + sm * 7907 + (ct + 1) * 1299709) (show 0 < 2147483647 by decide)
    generalize (c * 48611 + sm * 7907 + (ct + 1) * 1299709) % 2147483647 = x1 at hx1
    refine ss_cons (s_set (e_op (e_bi (l_cons (e_op (e_op (e_op (e_var rfl (e_var rfl (o_mul (by omega) (e_op (e_var rfl (e_cst (o_mul (b := 15485863) (by decide) (o_add (e_cst (o_add (b := 5) (l_nil (bi_int (e_cst (o_mod (b := 2147483629) (by decide) ?_)))))))))))))))))))))
    have hx2 := Nat.mod_lt (x1 * x1 + (ct + 1) * 15485863 + 5) (show 0 < 2147483629 by decide)
    generalize (x1 * x1 + (ct + 1) * 15485863 + 5) % 2147483629 = x2 at hx2
    refine ss_cons (s_set (e_op (e_bi (l_cons (e_op (e_op (e_op (e_var rfl (e_var rfl (o_mul (by omega) (e_var rfl (o_add (e_cst (o_add (b := 3) (l_nil (bi_int (e_cst (o_mod (b := 2147483587) (by decide) ?_))))))))))))))))))
    refine ss_cons (s_ret (e_op (e_bi (l_cons (e_op (e_var rfl (e_cst (o_div (b := 1024) (by decide) (by decide) (l_nil (bi_int (e_var rfl (o_mod hm ?_))))))))))))
    exact ⟨_, Nat.mod_lt _ hm, rfl, ⟨[], ks, sm, ct + 1, w1, w2, w3, hk, n1, n2, n3, Nat.zero_le _, hkl⟩, w4⟩
  · rw [if_pos (by simp [hgs])]
    obtain ⟨ini, c, rfl⟩ := last_of hgs
    generalize hT : S ++ [[]] = T at p1
    have q1 := p1.at h1 List.not_mem_nil
    have q2 := p1.at h2 List.not_mem_nil
    have q3 := p1.at h3 List.not_mem_nil
    have lgT := lt_at q2
    rw [List.length_append, List.length_singleton] at hg
    refine ss_cons (s_set (e_mt (e_var rfl (l_nil (mt_pop q2 ?_)))))
    have w1 : (T.set g (ini.map dN))[r]? = some [.ref g, .ref kn, dN sm, dN ct] := by rw [List.getElem?_set_ne (Ne.symm n1)]; exact q1
    have w2 : (T.set g (ini.map dN))[g]? = some (ini.map dN) := List.getElem?_set_self lgT
    have w3 : (T.set g (ini.map dN))[kn]? = some (ks.map dN) := by rw [List.getElem?_set_ne n3]; exact q3
    have w4 : Ext [r, g] S (T.set g (ini.map dN)) := p1.of_nil.trans (.set (by simp))
    show Ok (evSs cf _ _ (T.set g (ini.map dN))) _
    generalize T.set g (ini.map dN) = U at w1 w2 w3 w4
    refine ss_cons (s_if (b_cmp (e_var rfl (e_var rfl (c_ge ?_)))))
    by_cases hc : many ≤ c
    · rw [if_pos (decide_eq_true hc)]
      refine ss_cons (s_expr (e_mt (e_var rfl (l_cons (e_op (e_var rfl (e_var rfl (o_div hm (by omega) (l_nil (mt_append w2 (by rw [List.length_map]; omega) ?_))))))))))
      have v1 : (U.set g (ini.map dN ++ [dN (c / many)]))[r]? = some [.ref g, .ref kn, dN sm, dN ct] := by rw [List.getElem?_set_ne (Ne.symm n1)]; exact w1
      have v2 : (U.set g (ini.map dN ++ [dN (c / many)]))[g]? = some ((ini ++ [c / many]).map dN) := by rw [List.getElem?_set_self (lt_at w2)]; simp
      have v3 : (U.set g (ini.map dN ++ [dN (c / many)]))[kn]? = some (ks.map dN) := by rw [List.getElem?_set_ne n3]; exact w3
      have v4 : Ext [r, g] S (U.set g (ini.map dN ++ [dN (c / many)])) := w4.trans (.set (by simp))
      refine ss_nil (ss_cons (s_ret (e_op (e_bi (l_cons (e_var rfl (l_nil (bi_int (e_var rfl (o_mod hm ?_))))))))))
      exact ⟨_, Nat.mod_lt _ hm, rfl, ⟨ini ++ [c / many], ks, sm, ct, v1, v2, v3, hk, n1, n2, n3, by rw [List.length_append, List.length_singleton]; exact hg, hkl⟩, v4⟩
    · rw [if_neg (by simpa using hc)]
      refine ss_nil (ss_cons (s_ret (e_op (e_bi (l_cons (e_var rfl (l_nil (bi_int (e_var rfl (o_mod hm ?_))))))))))
      exact ⟨_, Nat.mod_lt _ hm, rfl, ⟨ini, ks, sm, ct, w1, w2, w3, hk, n1, n2, n3, by omega, hkl⟩, w4⟩
end
end Prog

set_option Elab.async false
set_option linter.all false
set_option maxRecDepth 100000
set_option maxHeartbeats 2000000
namespace Prog
open PySem PySem.Spec Ev Lots

def bRows (dr so pk : Nat) : Sxs := (.cons (.par [4, 5, 6] (.cons (.lst .nil) (.cons (.call dr (.cons (.var 0) (.cons (.cst (.int 6)) .nil))) (.cons (.op .sub (.op .shl (.cst (.int 1)) (.var 1)) (.cst (.int 1))) .nil)))) (.cons (.for (.nm 3) (.rng1 (.var 2)) (.cons (.par [7, 8] (.cons (.call dr (.cons (.var 0) (.cons (.cst (.int 10)) .nil))) (.cons (.call dr (.cons (.var 0) (.cons (.op .shl (.cst (.int 1)) (.var 1)) .nil))) .nil))) (.cons (.iff (.or (.cmp .eq (.var 5) (.cst (.int 0))) (.cmp .eq (.var 7) (.cst (.int 0)))) (.cons (.set (.nm 8) (.call so (.cons (.var 0) (.cons (.var 1) (.cons (.cst (.int 2)) .nil))))) .nil) .nil) (.cons (.iff (.or (.cmp .eq (.var 5) (.cst (.int 1))) (.cmp .eq (.var 7) (.cst (.int 1)))) (.cons (.set (.nm 8) (.op .sub (.var 6) (.call so (.cons (.var 0) (.cons (.var 1) (.cons (.cst (.int 2)) .nil)))))) .nil) .nil) (.cons (.iff (.and (.cmp .eq (.var 7) (.cst (.int 2))) (.cmp .ne (.var 4) (.lst .nil))) (.cons (.set (.nm 8) (.call pk (.cons (.var 0) (.cons (.var 4) .nil)))) .nil) .nil) (.cons (.iff (.and (.cmp .eq (.var 7) (.cst (.int 3))) (.cmp .ne (.var 4) (.lst .nil))) (.cons (.set (.nm 8) (.op .band (.call pk (.cons (.var 0) (.cons (.var 4) .nil))) (.call pk (.cons (.var 0) (.cons (.var 4) .nil))))) .nil) .nil) (.cons (.iff (.cmp .eq (.var 7) (.cst (.int 4))) (.cons (.set (.nm 8) (.call pk (.cons (.var 0) (.cons (.lst (.cons (.var 6) (.cons (.var 6) (.cons (.cst (.int 0)) .nil)))) .nil)))) .nil) .nil) (.cons (.expr (.mt .append (.var 4) (.cons (.var 8) .nil))) .nil)))))))) (.cons (.ret (.var 4)) .nil)))

def IsPick (cf : CallF) (i : Nat) : Prop := ∀ (r g kn n : Nat) (xs : List D) (S : Store), Spr r g kn S → S[n]? = some xs → n ≠ r → n ≠ g → 0 < xs.length → xs.length < 2 ^ 30 → Ok (cf i [.ref r, .ref n] S) fun p => p.1 ∈ xs ∧ Spr r g kn p.2 ∧ Ext [r, g] S p.2
def IsSome (cf : CallF) (i : Nat) : Prop := ∀ (r g kn wide many : Nat) (S : Store), Spr r g kn S → wide ≤ 30 → many ≤ 1000 → Ok (cf i [.ref r, dN wide, dN many] S) fun p => ∃ m, m < 2 ^ wide ∧ p.1 = dN m ∧ Spr r g kn p.2 ∧ Ext [r, g] S p.2
def IsRows (cf : CallF) (i : Nat) : Prop := ∀ (r g kn wide many : Nat) (S : Store), Spr r g kn S → wide ≤ 20 → many ≤ 1000 → Ok (cf i [.ref r, dN wide, dN many] S) fun p => ∃ (k : Nat) (rs : List Nat), p.1 = .ref k ∧ S.length ≤ k ∧ rs.length = many ∧ (∀ x, x ∈ rs → x < 2 ^ wide) ∧ p.2[k]? = some (rs.map dN) ∧ Spr r g kn p.2 ∧ Ext [r, g] S p.2
section
variable {cf : CallF} {S : Store}
theorem s_par {r : Ev.Env} {is : List Nat} {es : Exs} {Q : Fl → Prop} (h : Ok (evL cf es r S) fun p => is.length = p.1.length ∧ Q (.nx ((is.zip p.1).foldl (fun r p => r.set p.1 (some p.2)) r) p.2)) : Ok (evS cf (.par is es) r S) Q := by
  unfold evS
  refine (h.mono fun p h => ?_).bind
  rw [if_pos h.1]
  exact .some h.2
theorem pick_ok {dr : Nat} (hD : IsDraw cf dr) {r g kn n : Nat} {xs : List D} (hS : Spr r g kn S) (hx : S[n]? = some xs) (n1 : n ≠ r) (n2 : n ≠ g) (h0 : 0 < xs.length) (hl : xs.length < 2 ^ 30) : Ok (runDf cf ⟨2, 2, bPick dr⟩ [.ref r, .ref n] S) fun p => p.1 ∈ xs ∧ Spr r g kn p.2 ∧ Ext [r, g] S p.2 := by
  refine run_ok rfl (ss_cons (s_ret (e_idx (e_var rfl (e_call (l_cons (e_var rfl (l_cons (e_bi (l_cons (e_var rfl (l_nil (bi_len (e_of hx) (l_nil ((hD r g kn xs.length S hS h0 hl).mono fun p hp => ?_)))))))))))))))
  obtain ⟨d, S1⟩ := p
  obtain ⟨v, hv, e, h1, h2⟩ := hp
  dsimp only at e h1 h2 ⊢
  subst e
  exact ix_nat (x := xs[v]) (e_of (h2.at hx (by simp [n1, n2]))) (List.getElem?_eq_getElem hv) ⟨List.getElem_mem hv, h1, h2⟩
theorem or_bit_lt {a v w : Nat} (ha : a < 2 ^ w) (hv : v < w) : a ||| 2 ^ v < 2 ^ w := Nat.or_lt_two_pow ha (Nat.pow_lt_pow_right (by decide) hv)
theorem some_ok {dr : Nat} (hD : IsDraw cf dr) {r g kn wide many : Nat} (hS : Spr r g kn S) (hw : wide ≤ 30) (hm : many ≤ 1000) : Ok (runDf cf ⟨5, 3, bSome dr⟩ [.ref r, dN wide, dN many] S) fun p => ∃ m, m < 2 ^ wide ∧ p.1 = dN m ∧ Spr r g kn p.2 ∧ Ext [r, g] S p.2 := by
  refine run_ok rfl (ss_cons (s_set (e_cst ?_)))
  refine ss_cons (s_for (i_rng (e_ite (b_cmp (e_var rfl (e_cst (c_gt (b := 0) ?_)))))))
  have main : ∀ (Q : Fl → Prop) (j : Nat), j ≤ 1000 → (0 < j → 0 < wide) → (∀ (a : Nat) (o : Option D) (S' : Store), a < 2 ^ wide → Spr r g kn S' → Ext [r, g] S S' → Q (.nx [some (.ref r), some (dN wide), some (dN many), some (dN a), o] S')) →
      Ok (forLoop (.nm 4) none (fun r1 S1 => evSs cf (.cons (.set (.nm 3) (.op .bor (.var 3) (.op .shl (.cst (.int 1)) (.call dr (.cons (.var 0) (.cons (.var 1) .nil)))))) .nil) r1 S1) (rngD 0 j) [some (.ref r), some (dN wide), some (dN many), some (dN 0), none] S) Q := by
    intro Q j hj hj0 fin
    refine for_ok (g := none) (fun rem e S' => ∃ (a : Nat) (o : Option D), a < 2 ^ wide ∧ e = [some (.ref r), some (dN wide), some (dN many), some (dN a), o] ∧ Spr r g kn S' ∧ Ext [r, g] S S' ∧ (rem ≠ [] → 0 < wide)) (fun _ _ _ _ => trivial) (fun x rem e S' h => ?_) (fun e S' h => ?_) ⟨0, none, Nat.two_pow_pos _, rfl, hS, .refl, fun z => hj0 ?_⟩
    · obtain ⟨a, o, ha, rfl, h1, h2, h3⟩ := h
      have w0 := h3 (by simp)
      refine ⟨_, rfl, ss_cons (s_set (e_op (e_var rfl (e_op (e_cst (e_call (l_cons (e_var rfl (l_cons (e_var rfl (l_nil ((hD r g kn wide S' h1 w0 (by omega)).mono fun p hp => ?_))))))))))))⟩
      obtain ⟨d, S1⟩ := p
      obtain ⟨v, hv, e, k1, k2⟩ := hp
      dsimp only at e k1 k2 ⊢
      subst e
      exact o_shl1 (by omega) (o_or (ss_nil ⟨_, _, or_bit_lt ha hv, rfl, k1, h2.trans k2, fun _ => w0⟩))
    · obtain ⟨a, o, ha, rfl, h1, h2, h3⟩ := h
      exact fin a o S' ha h1 h2
    · cases j with
      | zero => exact absurd rfl z
      | succ j => exact Nat.succ_pos j
  by_cases hc : 0 < wide
  · rw [if_pos (decide_eq_true hc)]
    exact e_var rfl ⟨many, rfl, by omega, main _ many hm (fun _ => hc) fun a o S' ha h1 h2 => ss_cons (s_ret (e_var rfl ⟨a, ha, rfl, h1, h2⟩))⟩
  · rw [if_neg (by simpa using hc)]
    exact e_cst ⟨0, rfl, by decide, main _ 0 (Nat.zero_le _) (fun z => absurd z (Nat.lt_irrefl _)) fun a o S' ha h1 h2 => ss_cons (s_ret (e_var rfl ⟨a, ha, rfl, h1, h2⟩))⟩
end
end Prog

set_option Elab.async false
set_option linter.all false
set_option maxRecDepth 100000
set_option maxHeartbeats 2000000
namespace Prog
open PySem PySem.Spec Ev Lots
section
variable {cf : CallF} {S : Store}
theorem ss_step {r : Ev.Env} {s : Sx} {ss : Sxs} {Q : Fl → Prop} (J : Ev.Env → Store → Prop) (h : Ok (evS cf s r S) fun fl => ∃ r1 S1, fl = .nx r1 S1 ∧ J r1 S1) (k : ∀ r1 S1, J r1 S1 → Ok (evSs cf ss r1 S1) Q) : Ok (evSs cf (.cons s ss) r S) Q := by
  refine ss_cons (h.mono fun fl h => ?_)
  obtain ⟨r1, S1, rfl, hj⟩ := h
  exact k r1 S1 hj
theorem s_if2 {r : Ev.Env} {c : Tx} {a b : Sxs} {Q : Fl → Prop} (h : Ok (evB cf c r S) fun p => (p.1 = true → Ok (evSs cf a r p.2) Q) ∧ (p.1 = false → Ok (evSs cf b r p.2) Q)) : Ok (evS cf (.iff c a b) r S) Q := by
  refine s_if (h.mono fun p h => ?_)
  cases e : p.1 with
  | true => rw [if_pos rfl]; exact h.1 e
  | false => rw [if_neg Bool.false_ne_true]; exact h.2 e
/-- two tests, the second only where the first does not tell -/
theorem b_or2 {r : Ev.Env} {a b : Tx} {B : Bool × Store → Prop} (h : Ok (evB cf a r S) fun p => B (true, p.2) ∧ Ok (evB cf b r p.2) B) : Ok (evB cf (.or a b) r S) B := by
  refine b_or (h.mono fun p h => ?_)
  split
  · exact h.1
  · exact h.2
theorem b_and2 {r : Ev.Env} {a b : Tx} {B : Bool × Store → Prop} (h : Ok (evB cf a r S) fun p => Ok (evB cf b r p.2) B ∧ B (false, p.2)) : Ok (evB cf (.and a b) r S) B := by
  refine b_and (h.mono fun p h => ?_)
  split
  · exact h.1
  · exact h.2
theorem and_lt {a b w : Nat} (h : a < 2 ^ w) : a &&& b < 2 ^ w := Nat.lt_of_le_of_lt Nat.and_le_left h
theorem mem_nats {rs : List Nat} {d : D} (h : d ∈ rs.map dN) : ∃ x, x ∈ rs ∧ d = dN x := by
  obtain ⟨x, h1, h2⟩ := List.mem_map.mp h
  exact ⟨x, h1, h2.symm⟩
theorem rows_law {dr so pk : Nat} (hD : IsDraw cf dr) (hSo : IsSome cf so) (hP : IsPick cf pk) {r g kn wide many : Nat} (hS : Spr r g kn S) (hw : wide ≤ 20) (hm : many ≤ 1000) :
    Ok (runDf cf ⟨9, 3, bRows dr so pk⟩ [.ref r, dN wide, dN many] S) fun p => ∃ (k : Nat) (rs : List Nat), p.1 = .ref k ∧ S.length ≤ k ∧ rs.length = many ∧ (∀ x, x ∈ rs → x < 2 ^ wide) ∧ p.2[k]? = some (rs.map dN) ∧ Spr r g kn p.2 ∧ Ext [r, g] S p.2 := by
  have sz : sizeLine = 2 ^ 24 := rfl
  have big : 2 ^ wide ≤ 2 ^ 20 := Nat.pow_le_pow_right (by decide) hw
  have w0 : 0 < 2 ^ wide := Nat.two_pow_pos _
  obtain ⟨lr, lg, lk⟩ := hS.lt
  have kr : S.length ≠ r := by omega
  have kg : S.length ≠ g := by omega
  have nW : S.length ∉ [r, g] := by simp [kr, kg]
  refine run_ok rfl (ss_cons (s_par (l_cons (e_lst (l_nil ⟨Nat.zero_le _, l_cons (e_call (l_cons (e_var rfl (l_cons (e_cst (l_nil ((hD r g kn 6 _ (hS.mv .push) (by decide) (by decide)).mono fun p hp => ?_)))))))⟩)))))
  obtain ⟨d, S1⟩ := p
  obtain ⟨way, _, e, a1, a2⟩ := hp
  dsimp only at e a1 a2 ⊢
  subst e
  refine l_cons (e_op (e_op (e_cst (e_var rfl (o_shl1 (by omega) (e_cst (o_sub (b := 1) w0 (l_nil ⟨rfl, ?_⟩))))))))
  have c1 : S1[S.length]? = some (([] : List Nat).map dN) := a2.at at_push nW
  have x1 : Ext [r, g] S S1 := Ext.push.of_nil.trans a2
  refine ss_cons (s_for (i_rng (e_var rfl ⟨many, rfl, by omega, ?_⟩)))
  refine for_ok (g := none) (fun rem e S' => ∃ (rs : List Nat) (o3 o7 o8 : Option D), rs.length + rem.length = many ∧ (∀ x, x ∈ rs → x < 2 ^ wide) ∧ e = [some (.ref r), some (dN wide), some (dN many), o3, some (.ref S.length), some (dN way), some (dN (2 ^ wide - 1)), o7, o8] ∧ S'[S.length]? = some (rs.map dN) ∧ Spr r g kn S' ∧ Ext [r, g] S S') (fun _ _ _ _ => trivial) (fun x rem e S' h => ?_) (fun e S' h => ?_) ⟨[], none, none, none, ?_, fun _ z => absurd z List.not_mem_nil, rfl, c1, a1, x1⟩
  · obtain ⟨rs, o3, o7, o8, hl, hr, rfl, c2, a3, x2⟩ := h
    rw [List.length_cons] at hl
    have two : ∀ {T : Store} {l : List Nat}, T[S.length]? = some (l.map dN) → Ext [] T (T ++ [[]]) ∧ (T ++ [[]])[T.length]? = some (([] : List Nat).map dN) := fun _ => ⟨.push, at_push⟩
    refine ⟨_, rfl, ss_cons (s_par (l_cons (e_call (l_cons (e_var rfl (l_cons (e_cst (l_nil ((hD r g kn 10 S' a3 (by decide) (by decide)).mono fun p hp => ?_)))))))))⟩
    obtain ⟨d, S2⟩ := p
    obtain ⟨kind, _, e, a4, x3⟩ := hp
    dsimp only at e a4 x3 ⊢
    subst e
    refine l_cons (e_call (l_cons (e_var rfl (l_cons (e_op (e_cst (e_var rfl (o_shl1 (by omega) (l_nil ((hD r g kn (2 ^ wide) S2 a4 w0 (by omega)).mono fun p hp => ?_))))))))))
    obtain ⟨d, S3⟩ := p
    obtain ⟨m0, hm0, e, a5, x4⟩ := hp
    dsimp only at e a5 x4 ⊢
    subst e
    refine l_nil ⟨rfl, ?_⟩
    have xs : Ext [r, g] S S3 := (x2.trans x3).trans x4
    have c3 : S3[S.length]? = some (rs.map dN) := (x3.trans x4).at c2 nW
    -- what stays through the choices
    refine ss_step (fun e T => ∃ m, m < 2 ^ wide ∧ e = [some (.ref r), some (dN wide), some (dN many), some x, some (.ref S.length), some (dN way), some (dN (2 ^ wide - 1)), some (dN kind), some (dN m)] ∧ T[S.length]? = some (rs.map dN) ∧ Spr r g kn T ∧ Ext [r, g] S T) ?_ fun e T h => ?_
    · refine s_if2 (b_or2 (b_cmp (e_var rfl (e_cst (c_eq (b := 0) ?_)))))
      have yes : Ok (evSs cf (.cons (.set (.nm 8) (.call so (.cons (.var 0) (.cons (.var 1) (.cons (.cst (.int 2)) .nil))))) .nil) [some (.ref r), some (dN wide), some (dN many), some x, some (.ref S.length), some (dN way), some (dN (2 ^ wide - 1)), some (dN kind), some (dN m0)] S3) fun fl => ∃ r1 S1, fl = .nx r1 S1 ∧ ∃ m, m < 2 ^ wide ∧ r1 = [some (.ref r), some (dN wide), some (dN many), some x, some (.ref S.length), some (dN way), some (dN (2 ^ wide - 1)), some (dN kind), some (dN m)] ∧ S1[S.length]? = some (rs.map dN) ∧ Spr r g kn S1 ∧ Ext [r, g] S S1 := by
        refine ss_cons (s_set (e_call (l_cons (e_var rfl (l_cons (e_var rfl (l_cons (e_cst (l_nil ((hSo r g kn wide 2 S3 a5 (by omega) (by decide)).mono fun p hp => ?_))))))))))
        obtain ⟨d, S4⟩ := p
        obtain ⟨m, hm, e, b1, b2⟩ := hp
        dsimp only at e b1 b2 ⊢
        subst e
        exact ss_nil ⟨_, _, rfl, m, hm, rfl, b2.at c3 nW, b1, xs.trans b2⟩
      have no : Ok (evSs cf .nil [some (.ref r), some (dN wide), some (dN many), some x, some (.ref S.length), some (dN way), some (dN (2 ^ wide - 1)), some (dN kind), some (dN m0)] S3) fun fl => ∃ r1 S1, fl = .nx r1 S1 ∧ ∃ m, m < 2 ^ wide ∧ r1 = [some (.ref r), some (dN wide), some (dN many), some x, some (.ref S.length), some (dN way), some (dN (2 ^ wide - 1)), some (dN kind), some (dN m)] ∧ S1[S.length]? = some (rs.map dN) ∧ Spr r g kn S1 ∧ Ext [r, g] S S1 :=
        ss_nil ⟨_, _, rfl, m0, hm0, rfl, c3, a5, xs⟩
      exact ⟨⟨fun _ => yes, fun _ => no⟩, b_cmp (e_var rfl (e_cst (c_eq (b := 0) ⟨fun _ => yes, fun _ => no⟩)))⟩
    obtain ⟨m1, hm1, rfl, c4, a6, x5⟩ := h
    refine ss_step (fun e T => ∃ m, m < 2 ^ wide ∧ e = [some (.ref r), some (dN wide), some (dN many), some x, some (.ref S.length), some (dN way), some (dN (2 ^ wide - 1)), some (dN kind), some (dN m)] ∧ T[S.length]? = some (rs.map dN) ∧ Spr r g kn T ∧ Ext [r, g] S T) ?_ fun e T2 h => ?_
    · refine s_if2 (b_or2 (b_cmp (e_var rfl (e_cst (c_eq (b := 1) ?_)))))
      have yes : Ok (evSs cf (.cons (.set (.nm 8) (.op .sub (.var 6) (.call so (.cons (.var 0) (.cons (.var 1) (.cons (.cst (.int 2)) .nil)))))) .nil) [some (.ref r), some (dN wide), some (dN many), some x, some (.ref S.length), some (dN way), some (dN (2 ^ wide - 1)), some (dN kind), some (dN m1)] T) fun fl => ∃ r1 S1, fl = .nx r1 S1 ∧ ∃ m, m < 2 ^ wide ∧ r1 = [some (.ref r), some (dN wide), some (dN many), some x, some (.ref S.length), some (dN way), some (dN (2 ^ wide - 1)), some (dN kind), some (dN m)] ∧ S1[S.length]? = some (rs.map dN) ∧ Spr r g kn S1 ∧ Ext [r, g] S S1 := by
        refine ss_cons (s_set (e_op (e_var rfl (e_call (l_cons (e_var rfl (l_cons (e_var rfl (l_cons (e_cst (l_nil ((hSo r g kn wide 2 T a6 (by omega) (by decide)).mono fun p hp => ?_))))))))))))
        obtain ⟨d, S4⟩ := p
        obtain ⟨m, hm, e, b1, b2⟩ := hp
        dsimp only at e b1 b2 ⊢
        subst e
        exact o_sub (by omega) (ss_nil ⟨_, _, rfl, _, by omega, rfl, b2.at c4 nW, b1, x5.trans b2⟩)
      have no : Ok (evSs cf .nil [some (.ref r), some (dN wide), some (dN many), some x, some (.ref S.length), some (dN way), some (dN (2 ^ wide - 1)), some (dN kind), some (dN m1)] T) fun fl => ∃ r1 S1, fl = .nx r1 S1 ∧ ∃ m, m < 2 ^ wide ∧ r1 = [some (.ref r), some (dN wide), some (dN many), some x, some (.ref S.length), some (dN way), some (dN (2 ^ wide - 1)), some (dN kind), some (dN m)] ∧ S1[S.length]? = some (rs.map dN) ∧ Spr r g kn S1 ∧ Ext [r, g] S S1 :=
        ss_nil ⟨_, _, rfl, m1, hm1, rfl, c4, a6, x5⟩
      exact ⟨⟨fun _ => yes, fun _ => no⟩, b_cmp (e_var rfl (e_cst (c_eq (b := 1) ⟨fun _ => yes, fun _ => no⟩)))⟩
    obtain ⟨m2, hm2, rfl, c5, a7, x6⟩ := h
    refine ss_step (fun e T => ∃ m, m < 2 ^ wide ∧ e = [some (.ref r), some (dN wide), some (dN many), some x, some (.ref S.length), some (dN way), some (dN (2 ^ wide - 1)), some (dN kind), some (dN m)] ∧ T[S.length]? = some (rs.map dN) ∧ Spr r g kn T ∧ Ext [r, g] S T) ?_ fun e T3 h => ?_
    · refine s_if2 (b_and2 (b_cmp (e_var rfl (e_cst (c_eq (b := 2) ⟨b_cmp (e_var rfl (e_lst (l_nil ⟨Nat.zero_le _, c_neL (m := []) ((Ext.push (W := [])).at c5 List.not_mem_nil) at_push ⟨fun z => ?_, fun z => ?_⟩⟩))), fun z => absurd z Bool.false_ne_true, fun _ => ss_nil ⟨_, _, rfl, m2, hm2, rfl, c5, a7, x6⟩⟩)))))
      · have hne : rs ≠ [] := by simpa using z
        have hp0 : 0 < rs.length := List.length_pos_iff.mpr hne
        refine ss_cons (s_set (e_call (l_cons (e_var rfl (l_cons (e_var rfl (l_nil ((hP r g kn S.length (rs.map dN) _ (a7.mv .push) ((Ext.push (W := [])).at c5 List.not_mem_nil) kr kg (by rw [List.length_map]; exact hp0) (by rw [List.length_map]; omega)).mono fun p hp => ?_))))))))
        obtain ⟨d, S4⟩ := p
        obtain ⟨e, b1, b2⟩ := hp
        dsimp only at e b1 b2 ⊢
        obtain ⟨y, hy, rfl⟩ := mem_nats e
        exact ss_nil ⟨_, _, rfl, y, hr y hy, rfl, b2.at ((Ext.push (W := [])).at c5 List.not_mem_nil) nW, b1, (x6.trans Ext.push).trans b2⟩
      · exact ss_nil ⟨_, _, rfl, m2, hm2, rfl, (Ext.push (W := [])).at c5 List.not_mem_nil, a7.mv .push, x6.trans .push⟩
    obtain ⟨m3, hm3, rfl, c6, a8, x7⟩ := h
    refine ss_step (fun e T => ∃ m, m < 2 ^ wide ∧ e = [some (.ref r), some (dN wide), some (dN many), some x, some (.ref S.length), some (dN way), some (dN (2 ^ wide - 1)), some (dN kind), some (dN m)] ∧ T[S.length]? = some (rs.map dN) ∧ Spr r g kn T ∧ Ext [r, g] S T) ?_ fun e T4 h => ?_
    · refine s_if2 (b_and2 (b_cmp (e_var rfl (e_cst (c_eq (b := 3) ⟨b_cmp (e_var rfl (e_lst (l_nil ⟨Nat.zero_le _, c_neL (m := []) ((Ext.push (W := [])).at c6 List.not_mem_nil) at_push ⟨fun z => ?_, fun z => ?_⟩⟩))), fun z => absurd z Bool.false_ne_true, fun _ => ss_nil ⟨_, _, rfl, m3, hm3, rfl, c6, a8, x7⟩⟩)))))
      · have hne : rs ≠ [] := by simpa using z
        have hp0 : 0 < rs.length := List.length_pos_iff.mpr hne
        have c7 := (Ext.push (W := []) (x := [])).at c6 List.not_mem_nil
        refine ss_cons (s_set (e_op (e_call (l_cons (e_var rfl (l_cons (e_var rfl (l_nil ((hP r g kn S.length (rs.map dN) _ (a8.mv .push) c7 kr kg (by rw [List.length_map]; exact hp0) (by rw [List.length_map]; omega)).mono fun p hp => ?_)))))))))
        obtain ⟨d, S4⟩ := p
        obtain ⟨e, b1, b2⟩ := hp
        dsimp only at e b1 b2 ⊢
        obtain ⟨y, hy, rfl⟩ := mem_nats e
        have c8 := b2.at c7 nW
        refine e_call (l_cons (e_var rfl (l_cons (e_var rfl (l_nil ((hP r g kn S.length (rs.map dN) _ b1 c8 kr kg (by rw [List.length_map]; exact hp0) (by rw [List.length_map]; omega)).mono fun p hp => ?_))))))
        obtain ⟨d, S5⟩ := p
        obtain ⟨e, b3, b4⟩ := hp
        dsimp only at e b3 b4 ⊢
        obtain ⟨z2, hz, rfl⟩ := mem_nats e
        exact o_and (ss_nil ⟨_, _, rfl, _, and_lt (hr y hy), rfl, b4.at c8 nW, b3, ((x7.trans Ext.push).trans b2).trans b4⟩)
      · exact ss_nil ⟨_, _, rfl, m3, hm3, rfl, (Ext.push (W := [])).at c6 List.not_mem_nil, a8.mv .push, x7.trans .push⟩
    obtain ⟨m4, hm4, rfl, c7, a9, x8⟩ := h
    refine ss_step (fun e T => ∃ m, m < 2 ^ wide ∧ e = [some (.ref r), some (dN wide), some (dN many), some x, some (.ref S.length), some (dN way), some (dN (2 ^ wide - 1)), some (dN kind), some (dN m)] ∧ T[S.length]? = some (rs.map dN) ∧ Spr r g kn T ∧ Ext [r, g] S T) ?_ fun e T5 h => ?_
    · refine s_if2 (b_cmp (e_var rfl (e_cst (c_eq (b := 4) ⟨fun _ => ?_, fun _ => ss_nil ⟨_, _, rfl, m4, hm4, rfl, c7, a9, x8⟩⟩))))
      have lt4 := lt_at c7
      refine ss_cons (s_set (e_call (l_cons (e_var rfl (l_cons (e_lst (l_cons (e_var rfl (l_cons (e_var rfl (l_cons (e_cst (l_nil ⟨(by show 3 ≤ 2 ^ 24; decide), l_nil ((hP r g kn T4.length [dN (2 ^ wide - 1), dN (2 ^ wide - 1), dN 0] _ (a9.mv .push) at_push (by omega) (by omega) (by show 0 < 3; decide) (by show 3 < 2 ^ 30; decide)).mono fun p hp => ?_)⟩)))))))))))))
      obtain ⟨d, S4⟩ := p
      obtain ⟨e, b1, b2⟩ := hp
      dsimp only at e b1 b2 ⊢
      have : ∃ y, y < 2 ^ wide ∧ d = dN y := by
        simp only [List.mem_cons, List.not_mem_nil, or_false] at e
        rcases e with e | e | e
        · exact ⟨_, by omega, e⟩
        · exact ⟨_, by omega, e⟩
        · exact ⟨0, w0, e⟩
      obtain ⟨y, hy, rfl⟩ := this
      exact ss_nil ⟨_, _, rfl, y, hy, rfl, b2.at ((Ext.push (W := [])).at c7 List.not_mem_nil) nW, b1, (x8.trans Ext.push).trans b2⟩
    obtain ⟨m5, hm5, rfl, c8, b0, x9⟩ := h
    refine ss_cons (s_expr (e_mt (e_var rfl (l_cons (e_var rfl (l_nil (mt_append c8 (by rw [List.length_map]; omega) (ss_nil ⟨rs ++ [m5], _, _, _, ?_, ?_, rfl, ?_, ?_, x9.far (Nat.le_refl _)⟩))))))))
    · rw [List.length_append, List.length_singleton]; omega
    · intro y hy
      rcases List.mem_append.mp hy with hy | hy
      · exact hr y hy
      · rw [List.mem_singleton.mp hy]; exact hm5
    · rw [List.getElem?_set_self (lt_at c8)]; simp
    · exact b0.on (b := S.length) (fun n hn => List.getElem?_set_ne (by omega)) lr lg lk
  · obtain ⟨rs, o3, o7, o8, hl, hr, rfl, c2, a3, x2⟩ := h
    exact ss_cons (s_ret (e_var rfl ⟨S.length, rs, rfl, Nat.le_refl _, by simpa using hl, hr, c2, a3, x2⟩))
  · rw [rng_nat]; simp
end
end Prog

set_option Elab.async false
set_option linter.all false
set_option maxRecDepth 100000
set_option maxHeartbeats 2000000
namespace Prog
open PySem PySem.Spec Ev Lots

def bLawLot : Sxs := (.cons (.ret (.bi .tuple (.cons (.comp1 (.nm 1) (.rng1 (.cst (.int 10))) (.cmp .eq (.op .band (.op .shr (.var 0) (.var 1)) (.cst (.int 1))) (.cst (.int 1))) (.var 1) [1]) .nil))) .nil)
def bSheet (ll : Nat) : Sxs := (.cons (.ret (.tup (.cons (.var 0) (.cons (.bi .tuple (.cons (.comp1 (.nm 2) (.ex (.var 1)) .yes (.call ll (.cons (.var 2) .nil)) [2]) .nil)) .nil)))) .nil)
def bHaving : Sxs := (.cons (.ret (.bi .tuple (.cons (.comp1 (.tp [2, 3]) (.enum (.var 0)) (.cmp .eq (.op .band (.var 3) (.var 1)) (.var 1)) (.var 2) [2, 3]) .nil))) .nil)
def bCommon : Sxs := (.cons (.set (.nm 3) (.op .sub (.op .shl (.cst (.int 1)) (.var 0)) (.cst (.int 1)))) (.cons (.for (.nm 4) (.ex (.var 2)) (.cons (.set (.nm 3) (.op .band (.var 3) (.idx (.var 1) (.var 4)))) .nil)) (.cons (.ret (.var 3)) .nil)))
def bRank : Sxs := (.cons (.ret (.tup (.cons (.bi .len (.cons (.idx (.var 0) (.cst (.int 0))) .nil)) (.cons (.idx (.var 0) (.cst (.int 0))) .nil)))) .nil)
def IsLawLot (cf : CallF) (i : Nat) : Prop := ∀ (m : Nat) (S : Store), m < 2 ^ 10 → Ok (cf i [dN m] S) fun p => p.1 = dTn (lotN m) ∧ Ext [] S p.2
def IsSheet (cf : CallF) (i : Nat) : Prop := ∀ (n R : Nat) (rs : List Nat) (S : Store), (∀ x, x ∈ rs → x < 2 ^ 10) → rs.length ≤ 1000 → S[R]? = some (rs.map dN) → Ok (cf i [dN n, .ref R] S) fun p => p.1 = tabD n rs ∧ Ext [] S p.2
def IsHaving (cf : CallF) (i : Nat) : Prop := ∀ (R m : Nat) (rs : List Nat) (S : Store), rs.length ≤ 1000 → S[R]? = some (rs.map dN) → Ok (cf i [.ref R, dN m] S) fun p => p.1 = dTn (having rs m) ∧ Ext [] S p.2
def IsCommon (cf : CallF) (i : Nat) : Prop := ∀ (n R : Nat) (rs ps : List Nat) (S : Store), n ≤ 20 → (∀ p, p ∈ ps → p < rs.length) → S[R]? = some (rs.map dN) → Ok (cf i [dN n, .ref R, dTn ps] S) fun p => p = (dN (meetAt n rs ps), S)
def IsRank (cf : CallF) (i : Nat) : Prop := ∀ (a : List Nat) (y : D) (S : Store), Ok (cf i [.tup [dTn a, y]] S) fun p => p = (.tup [dN a.length, dTn a], S)
section
variable {cf : CallF} {S : Store}
theorem bit_one {m i : Nat} : decide (m / 2 ^ i &&& 1 = 1) = m.testBit i := by
  rw [Nat.testBit_eq_decide_div_mod_eq, Nat.and_one_is_mod]
theorem lawLot_ok {m : Nat} (hm : m < 2 ^ 10) : Ok (runDf cf ⟨2, 1, bLawLot⟩ [dN m] S) fun p => p.1 = dTn (lotN m) ∧ Ext [] S p.2 := by
  have sz : sizeLine = 2 ^ 24 := rfl
  refine run_ok rfl (ss_cons (s_ret (e_bi (l_cons (comp1_pure (fun d => match d with
    | .int i => m.testBit i.toNat
    | _ => false) (fun d => d) (i_rng (e_cst ⟨10, rfl, by decide, ?_⟩)))))))
  refine ⟨fun n xs z => by (cases z), ?_, fun x hx => ?_, fun S' hS hc => l_nil (bi_tuple hc ⟨?_, hS⟩)⟩
  · rw [rng_nat, List.length_map, List.length_range]
    omega
  · rw [rng_nat] at hx
    obtain ⟨i, hi, rfl⟩ := List.mem_map.mp hx
    refine ⟨_, rfl, fun S2 hS => b_cmp (e_op (e_op (e_var rfl (e_var rfl (o_shr (e_cst (o_and (b := 1) (e_cst (c_eq (b := 1) ⟨?_, .refl, fun _ => e_var rfl ⟨rfl, .refl⟩⟩)))))))))⟩
    rw [bit_one]
    simp
  · rw [rng_nat, List.map_id']
    show D.tup _ = D.tup _
    rw [List.filter_map, lotN_to hm]
    congr 2
theorem sheet_ok {ll : Nat} (hL : IsLawLot cf ll) {n R : Nat} {rs : List Nat} (hr : ∀ x, x ∈ rs → x < 2 ^ 10) (hl : rs.length ≤ 1000) (hR : S[R]? = some (rs.map dN)) : Ok (runDf cf ⟨3, 2, bSheet ll⟩ [dN n, .ref R] S) fun p => p.1 = tabD n rs ∧ Ext [] S p.2 := by
  have sz : sizeLine = 2 ^ 24 := rfl
  refine run_ok rfl (ss_cons (s_ret (e_tup (l_cons (e_var rfl (l_cons (e_bi (l_cons (comp1_map (fun d => match d with
    | .int i => dTn (lotN i.toNat)
    | _ => .non) (i_ex (e_var rfl (it_ref hR ⟨fun n xs z => (by cases z; exact hR), ?_, fun x hx => ?_, fun S' hS hc => l_nil (bi_tuple hc (l_nil ⟨(by show 2 ≤ 2 ^ 24; decide), ?_, hS⟩))⟩))))))))))))
  · show (rs.map dN).length ≤ _
    rw [List.length_map]
    omega
  · obtain ⟨m, hm, rfl⟩ := List.mem_map.mp hx
    refine ⟨_, rfl, fun S2 hS => e_call (l_cons (e_var rfl (l_nil ((hL m S2 (hr m hm)).mono fun p hp => ⟨?_, hp.2⟩))))⟩
    rw [hp.1]
    simp
  · show D.tup [dN n, D.tup ((rs.map dN).map _)] = _
    rw [List.map_map]
    rfl
theorem having_ok {R m : Nat} {rs : List Nat} (hl : rs.length ≤ 1000) (hR : S[R]? = some (rs.map dN)) : Ok (runDf cf ⟨4, 2, bHaving⟩ [.ref R, dN m] S) fun p => p.1 = dTn (having rs m) ∧ Ext [] S p.2 := by
  have sz : sizeLine = 2 ^ 24 := rfl
  refine run_ok rfl (ss_cons (s_ret (e_bi (l_cons (comp1_pure (fun d => match d with
    | .tup [_, .int i] => decide (i.toNat &&& m = m)
    | _ => false) (fun d => match d with
    | .tup [i, _] => i
    | _ => .non) (i_enum (e_var rfl (it_enum hR ⟨fun n xs z => (by cases z; exact hR), ?_, fun x hx => ?_, fun S' hS c => l_nil (bi_tuple c ⟨?_, hS⟩)⟩))))))))
  · show (enumD (rs.map dN)).length ≤ _
    rw [enum_is, List.length_map, List.length_range]
    omega
  · have hx' : x ∈ enumD (rs.map dN) := hx
    rw [enum_is] at hx'
    obtain ⟨i, hi, rfl⟩ := List.mem_map.mp hx'
    exact ⟨_, rfl, fun S2 hS => b_cmp (e_op (e_var rfl (e_var rfl (o_and (e_var rfl (c_eq ⟨by simp, .refl, fun _ => e_var rfl ⟨rfl, .refl⟩⟩))))))⟩
  · show D.tup (((enumD (rs.map dN)).filter _).map _) = _
    rw [enum_is, List.filter_map, List.map_map]
    unfold having
    have : (fun i => decide (m &&& rs.getD i 0 = m)) = fun i => decide (rs.getD i 0 &&& m = m) := by
      funext i
      rw [Nat.and_comm]
    rw [this]
    rfl
theorem common_ok {n R : Nat} {rs ps : List Nat} (hn : n ≤ 20) (hp : ∀ p, p ∈ ps → p < rs.length) (hR : S[R]? = some (rs.map dN)) : Ok (runDf cf ⟨5, 3, bCommon⟩ [dN n, .ref R, dTn ps] S) fun p => p = (dN (meetAt n rs ps), S) := by
  have w0 : 0 < 2 ^ n := Nat.two_pow_pos _
  refine run_ok rfl (ss_cons (s_set (e_op (e_op (e_cst (e_var rfl (o_shl1 (by omega) (e_cst (o_sub (b := 1) w0 ?_)))))))))
  refine ss_cons (s_for (i_ex (e_var rfl (it_tup ?_))))
  refine for_ok (g := none) (fun rem r S' => S' = S ∧ ∃ (a : Nat) (ys : List Nat) (o : Option D), rem = ys.map dN ∧ r = [some (dN n), some (.ref R), some (dTn ps), some (dN a), o] ∧ (∀ y, y ∈ ys → y < rs.length) ∧ ys.foldl (fun a i => a &&& rs.getD i 0) a = meetAt n rs ps) (fun _ _ _ _ => trivial) (fun x rem r S' h => ?_) (fun r S' h => ?_) ⟨rfl, _, ps, none, rfl, rfl, hp, rfl⟩
  · obtain ⟨rfl, a, ys, o, e, rfl, hy, hf⟩ := h
    cases ys with
    | nil => cases e
    | cons y ys =>
      cases e
      have hlt := hy y List.mem_cons_self
      refine ⟨_, rfl, ss_cons (s_set (e_op (e_var rfl (e_idx (e_var rfl (e_var rfl (ix_nat (x := dN (rs.getD y 0)) (e_of hR) ?_ (o_and (ss_nil ?_)))))))))⟩
      · rw [List.getElem?_map, List.getElem?_eq_getElem hlt, List.getD_eq_getElem?_getD, List.getElem?_eq_getElem hlt]
        rfl
      · exact ⟨rfl, _, ys, _, rfl, rfl, fun z hz => hy z (List.mem_cons_of_mem _ hz), hf⟩
  · obtain ⟨rfl, a, ys, o, e, rfl, hy, hf⟩ := h
    cases ys with
    | cons y ys => cases e
    | nil =>
      refine ss_cons (s_ret (e_var rfl ?_))
      rw [← hf]
      rfl
theorem rank_ok {a : List Nat} {y : D} : Ok (runDf cf ⟨1, 1, bRank⟩ [.tup [dTn a, y]] S) fun p => p = (.tup [dN a.length, dTn a], S) := by
  refine run_ok rfl (ss_cons (s_ret (e_tup (l_cons (e_bi (l_cons (e_idx (e_var rfl (e_cst (ix_nat (i := 0) rfl rfl (l_nil (bi_len (xs := a.map dN) rfl (l_cons (e_idx (e_var rfl (e_cst (ix_nat (i := 0) rfl rfl (l_nil ⟨(by show 2 ≤ 2 ^ 24; decide), ?_⟩))))))))))))))))))
  show (D.tup [dN (a.map dN).length, dTn a], S) = _
  rw [List.length_map]
end
end Prog

set_option Elab.async false
set_option linter.all false
set_option maxRecDepth 100000
set_option maxHeartbeats 2000000
namespace Lots
theorem perm_nodup {α : Type} [DecidableEq α] : ∀ {l l' : List α}, l.Nodup → l'.Nodup → (∀ x, x ∈ l ↔ x ∈ l') → l.Perm l'
  | [], [], _, _, _ => .nil
  | [], y :: _, _, _, h => absurd ((h y).mpr List.mem_cons_self) List.not_mem_nil
  | x :: l, l', a, b, h => by
    have hx : x ∈ l' := (h x).mp List.mem_cons_self
    have a1 := List.nodup_cons.mp a
    refine (List.Perm.cons x (perm_nodup a1.2 (b.erase x) fun y => ?_)).trans (List.perm_cons_erase hx).symm
    rw [List.Nodup.mem_erase_iff b]
    constructor
    · intro hy
      refine ⟨fun e => a1.1 (e ▸ hy), (h y).mp (List.mem_cons_of_mem _ hy)⟩
    · rintro ⟨h1, h2⟩
      rcases List.mem_cons.mp ((h y).mpr h2) with e | e
      · exact absurd e h1
      · exact e
theorem closed_perm (n : Nat) (p : Nat → Bool) : ((List.range (2 ^ n)).filter p).Perm ((ordAll n).filter p) := by
  refine perm_nodup (List.nodup_range.filter _) ((before_ne (f := lotN) (ordAll_order n)).filter _) fun x => ?_
  rw [List.mem_filter, List.mem_filter, List.mem_range, mem_ordAll]
theorem closed_order (n : Nat) (p : Nat → Bool) : ((ordAll n).filter p).Pairwise fun a b => before (lotN a) (lotN b) = true := (ordAll_order n).filter p
end Lots
namespace Prog
open PySem PySem.Spec PySem.W Ev Lots

theorem alike_nats : ∀ a b : List Nat, alikeAll (a.map pN) (b.map pN) = true
  | [], _ => by simp [alikeAll]
  | _ :: _, [] => by simp [alikeAll]
  | x :: a, y :: b => by
    rw [List.map_cons, List.map_cons, alikeAll, alike_nats a b]
    rfl
theorem key_is (a : List Nat) : keyD a = .tuple [pN a.length, pT a] := rfl
theorem alike_key (a b : List Nat) : alike (keyD a) (keyD b) = true := by
  rw [key_is, key_is, alike, alikeAll, alikeAll, alikeAll]
  unfold pT
  rw [alike, alike_nats]
  rfl
theorem depth_T (l : List Nat) : (pT l).depth = 1 := by
  unfold pT
  rw [PyData.depth, depth_nats]
theorem depth_key (a : List Nat) : (keyD a).depth = 2 := by
  rw [key_is, PyData.depth, PyData.depthAll, PyData.depthAll, PyData.depthAll, depth_T]
  rfl
section
variable {cf : CallF} {S : Store}
theorem keys_is {α : Type} {rk : Nat} (hR : IsRank cf rk) (f : α → List Nat) (y : α → D) : ∀ (qs : List α), keysD (cf rk) (qs.map fun q => .tup [dTn (f q), y q]) S = some (qs.map fun q => .tup [dN (f q).length, dTn (f q)], S)
  | [] => rfl
  | q :: qs => by
    obtain ⟨p, e, hp⟩ := hR (f q) (y q) S
    subst hp
    rw [List.map_cons, keysD, e]
    dsimp only
    rw [keys_is hR f y qs]
    rfl
theorem dat_keys {α : Type} {n : Nat} (f : α → List Nat) : ∀ (qs : List α), datL n S (qs.map fun q => .tup [dN (f q).length, dTn (f q)]) = some (qs.map fun q => keyD (f q))
  | [] => by simp only [List.map_nil, datL]
  | q :: qs => by
    simp only [List.map_cons, datL, dat, dat_keys f qs, dat_nats]
    rfl
theorem sort_ok {α : Type} {rk k : Nat} (hR : IsRank cf rk) {qs ys : List α} (f : α → List Nat) (y : α → D) (hS : S[k]? = some (qs.map fun q => .tup [dTn (f q), y q])) (hp : qs.Perm ys) (ho : ys.Pairwise fun a b => before (f a) (f b) = true) :
    Ok (sortR (cf rk) (.ref k) S) fun p => p = (.ref S.length, S ++ [ys.map fun q => .tup [dTn (f q), y q]]) := by
  refine .of (a := (.ref S.length, S ++ [ys.map fun q => .tup [dTn (f q), y q]])) ?_ rfl
  unfold sortR lstOf
  dsimp only
  rw [hS]
  dsimp only
  rw [keys_is hR f y qs]
  dsimp only
  rw [dat_keys f qs]
  dsimp only
  have c : AllAlike (qs.map fun q => keyD (f q)) ∧ Sortable (qs.map fun q => keyD (f q)) ∧ ∀ d, d ∈ (qs.map fun q => keyD (f q)) → d.depth ≤ 20 := by
    refine ⟨AllAlike.of fun a b => alike_key _ _, Sortable.tuples fun b => ⟨_, _, rfl⟩, fun d hd => ?_⟩
    obtain ⟨q, _, rfl⟩ := List.mem_map.mp hd
    rw [depth_key]
    decide
  rw [if_pos c]
  have e : ordK (qs.map fun q => D.tup [dTn (f q), y q]) (qs.map fun q => keyD (f q)) = ys.map fun q => D.tup [dTn (f q), y q] := by
    show (((qs.map fun q => D.tup [dTn (f q), y q]).zip (qs.map fun q => keyD (f q))).mergeSort _).map _ = _
    rw [List.zip_map', ← List.map_mergeSort (r := fun a b => !dataLt (keyD (f b)) (keyD (f a))) (s := dataLe false fun x : D × PyData => x.2) (f := fun q => (D.tup [dTn (f q), y q], keyD (f q))) (fun a _ b _ => rfl), List.map_map, sort_is hp ho]
    rfl
  rw [e]
end
def bByLots (hv co ll rk : Nat) : Sxs := (.cons (.set (.nm 2) (.lst .nil)) (.cons (.for (.nm 3) (.rng1 (.op .shl (.cst (.int 1)) (.var 0))) (.cons (.set (.nm 4) (.call hv (.cons (.var 1) (.cons (.var 3) .nil)))) (.cons (.iff (.cmp .eq (.call co (.cons (.var 0) (.cons (.var 1) (.cons (.var 4) .nil)))) (.var 3)) (.cons (.expr (.mt .append (.var 2) (.cons (.tup (.cons (.call ll (.cons (.var 3) .nil)) (.cons (.var 4) .nil))) .nil))) .nil) .nil) .nil))) (.cons (.ret (.bi .tuple (.cons (.sortK rk (.var 2)) .nil))) .nil)))
def IsDue (cf : CallF) (i L : Nat) : Prop := ∀ (n R : Nat) (rs : List Nat) (S : Store), n ≤ 10 → rs.length ≤ L → Tab n rs → S[R]? = some (rs.map dN) → Ok (cf i [dN n, .ref R] S) fun p => p.1 = .tup (pairsOf n rs) ∧ Ext [] S p.2
section
variable {cf : CallF} {S : Store}
theorem byLots_ok {hv co ll rk : Nat} (hH : IsHaving cf hv) (hC : IsCommon cf co) (hL : IsLawLot cf ll) (hR : IsRank cf rk) {n R : Nat} {rs : List Nat} (hn : n ≤ 10) (T : Tab n rs) (hS : S[R]? = some (rs.map dN)) : Ok (runDf cf ⟨5, 2, bByLots hv co ll rk⟩ [dN n, .ref R] S) fun p => p.1 = .tup (pairsOf n rs) ∧ Ext [] S p.2 := by
  have sz : sizeLine = 2 ^ 24 := rfl
  have big : 2 ^ n ≤ 2 ^ 10 := Nat.pow_le_pow_right (by decide) hn
  have lR := lt_at hS
  refine run_ok rfl (ss_cons (s_set (e_lst (l_nil ⟨Nat.zero_le _, ?_⟩))))
  refine ss_cons (s_for (i_rng (e_op (e_cst (e_var rfl (o_shl1 (by omega) ⟨2 ^ n, rfl, by omega, ?_⟩))))))
  refine for_ok (g := none) (fun rem r S' => ∃ (j : Nat) (o3 o4 : Option D), j ≤ 2 ^ n ∧ rem = (rngD 0 (2 ^ n)).drop j ∧ r = [some (dN n), some (.ref R), some (.ref S.length), o3, o4] ∧ Ext [] S S' ∧ S'[S.length]? = some (((List.range j).filter fun m => decide (clo n rs m = m)).map (pairD rs))) (fun _ _ _ _ => trivial) (fun x rem r S' h => ?_) (fun r S' h => ?_) ⟨0, none, none, Nat.zero_le _, rfl, rfl, .push, at_push⟩
  · obtain ⟨j, o3, o4, hj, f2, rfl, f4, f5⟩ := h
    have hj2 : j < 2 ^ n := by
      have := congrArg List.length f2
      rw [List.length_cons, List.length_drop, rng_nat, List.length_map, List.length_range] at this
      omega
    have hl : j < (rngD 0 (2 ^ n)).length := by rw [rng_nat, List.length_map, List.length_range]; exact hj2
    rw [List.drop_eq_getElem_cons hl] at f2
    obtain ⟨f3, f6⟩ := List.cons.inj f2
    have f7 : x = dN j := by
      rw [f3]
      simp [rng_nat]
    subst f7
    refine ⟨_, rfl, ss_cons (s_set (e_call (l_cons (e_var rfl (l_cons (e_var rfl (l_nil ((hH R j rs S' T.len (f4.at hS List.not_mem_nil)).mono fun p hp => ?_))))))))⟩
    obtain ⟨d, S1⟩ := p
    obtain ⟨e, h1⟩ := hp
    dsimp only at e h1 ⊢
    subst e
    have g1 : Ext [] S S1 := f4.trans h1
    refine ss_cons (s_if2 (b_cmp (e_call (l_cons (e_var rfl (l_cons (e_var rfl (l_cons (e_var rfl (l_nil ((hC n R rs (having rs j) S1 T.n20 (fun p => having_lt) (g1.at hS List.not_mem_nil)).mono fun p hp => ?_)))))))))))
    subst hp
    rw [clo_having]
    refine e_var rfl (c_eq ⟨fun z => ?_, fun z => ?_⟩)
    · have hcl : clo n rs j = j := of_decide_eq_true z
      have c1 := h1.at f5 List.not_mem_nil
      refine ss_cons (s_expr (e_mt (e_var rfl (l_cons (e_tup (l_cons (e_call (l_cons (e_var rfl (l_nil ((hL j S1 (by omega)).mono fun p hp => ?_)))))))))))
      obtain ⟨d, S2⟩ := p
      obtain ⟨e, h2⟩ := hp
      dsimp only at e h2 ⊢
      subst e
      refine l_cons (e_var rfl (l_nil ⟨(by show 2 ≤ 2 ^ 24; decide), l_nil (mt_append (h2.at c1 List.not_mem_nil) ?_ ?_)⟩))
      · rw [List.length_map]
        have := List.length_filter_le (fun m => decide (clo n rs m = m)) (List.range j)
        rw [List.length_range] at this
        omega
      · refine ss_nil (ss_nil ⟨j + 1, _, _, hj2, f6, rfl, (g1.trans h2).far (Nat.le_refl _), ?_⟩)
        rw [List.getElem?_set_self (lt_at (h2.at c1 List.not_mem_nil)), List.range_succ, List.filter_append, List.map_append]
        simp [hcl]
    · have hcl : ¬ clo n rs j = j := of_decide_eq_false z
      refine ss_nil (ss_nil ⟨j + 1, _, _, hj2, f6, rfl, g1, ?_⟩)
      rw [h1.at f5 List.not_mem_nil, List.range_succ, List.filter_append, List.map_append]
      simp [hcl]
  · obtain ⟨j, o3, o4, hj, f2, rfl, f4, f5⟩ := h
    have hj2 : j = 2 ^ n := by
      have := congrArg List.length f2
      rw [List.length_nil, List.length_drop, rng_nat, List.length_map, List.length_range] at this
      omega
    subst hj2
    refine ss_cons (s_ret (e_bi (l_cons (e_sort (e_var rfl ((sort_ok hR lotN (fun m => dTn (having rs m)) f5 (closed_perm n _) (closed_order n _)).mono fun p hp => ?_))))))
    subst hp
    exact l_nil (bi_tuple at_push ⟨rfl, f4.trans .push⟩)
end
end Prog

set_option Elab.async false
set_option linter.all false
set_option maxRecDepth 100000
set_option maxHeartbeats 2000000
namespace Lots
/-- the choices of places that are told by their meet -/
def told (n : Nat) (rs : List Nat) (c : Nat) : Bool := decide (having rs (meetAt n rs (lotN c)) = lotN c)
def chosen (n : Nat) (rs : List Nat) : List Nat := ((ordAll n).filter fun m => decide (clo n rs m = m)).map fun m => maskL (having rs m)
theorem lot_chosen {rs : List Nat} {m : Nat} : lotN (maskL (having rs m)) = having rs m := lotN_maskL (up_having rs m)
theorem meet_chosen {n m : Nat} {rs : List Nat} (h : clo n rs m = m) : meetAt n rs (lotN (maskL (having rs m))) = m := by rw [lot_chosen, clo_having, h]
theorem chosen_order (n : Nat) (rs : List Nat) : (chosen n rs).Pairwise fun a b => before (lotN (meetAt n rs (lotN a))) (lotN (meetAt n rs (lotN b))) = true := by
  unfold chosen
  rw [List.pairwise_map]
  refine (closed_order n fun m => decide (clo n rs m = m)).imp_of_mem fun {a b} ha hb h => ?_
  rw [meet_chosen (of_decide_eq_true (List.mem_filter.mp ha).2), meet_chosen (of_decide_eq_true (List.mem_filter.mp hb).2)]
  exact h
theorem chosen_perm (n : Nat) (rs : List Nat) : ((List.range (2 ^ rs.length)).filter (told n rs)).Perm (chosen n rs) := by
  refine perm_nodup (List.nodup_range.filter _) (before_ne (f := fun c => lotN (meetAt n rs (lotN c))) (chosen_order n rs)) fun c => ?_
  unfold chosen told
  rw [List.mem_filter, List.mem_range, decide_eq_true_eq, List.mem_map]
  constructor
  · rintro ⟨h1, h2⟩
    refine ⟨meetAt n rs (lotN c), List.mem_filter.mpr ⟨mem_ordAll.mpr meetAt_lt, decide_eq_true ?_⟩, ?_⟩
    · rw [← clo_having, h2]
    · rw [h2, maskL_lotN]
  · rintro ⟨m, hm, rfl⟩
    have hc : clo n rs m = m := of_decide_eq_true (List.mem_filter.mp hm).2
    refine ⟨maskL_lt fun i hi => (mem_having.mp hi).1, ?_⟩
    rw [meet_chosen hc, lot_chosen]
end Lots
namespace Prog
open PySem PySem.Spec PySem.W Ev Lots

def bByPlaces (co hv ll rk : Nat) : Sxs := (.cons (.set (.nm 2) (.lst .nil)) (.cons (.for (.nm 3) (.rng1 (.op .shl (.cst (.int 1)) (.bi .len (.cons (.var 1) .nil)))) (.cons (.set (.nm 4) (.bi .tuple (.cons (.comp1 (.nm 6) (.rng1 (.bi .len (.cons (.var 1) .nil))) (.cmp .eq (.op .band (.op .shr (.var 3) (.var 6)) (.cst (.int 1))) (.cst (.int 1))) (.var 6) [6]) .nil))) (.cons (.set (.nm 5) (.call co (.cons (.var 0) (.cons (.var 1) (.cons (.var 4) .nil))))) (.cons (.iff (.cmp .eq (.call hv (.cons (.var 1) (.cons (.var 5) .nil))) (.var 4)) (.cons (.expr (.mt .append (.var 2) (.cons (.tup (.cons (.call ll (.cons (.var 5) .nil)) (.cons (.var 4) .nil))) .nil))) .nil) .nil) .nil)))) (.cons (.ret (.bi .tuple (.cons (.sortK rk (.var 2)) .nil))) .nil)))
section
variable {cf : CallF} {S : Store}
abbrev placeD (n : Nat) (rs : List Nat) (c : Nat) : D := .tup [dTn (lotN (meetAt n rs (lotN c))), dTn (lotN c)]
theorem places_pairs (n : Nat) (rs : List Nat) : (chosen n rs).map (placeD n rs) = pairsOf n rs := by
  unfold chosen pairsOf
  rw [List.map_map]
  refine List.map_congr_left fun m hm => ?_
  have hc : clo n rs m = m := of_decide_eq_true (List.mem_filter.mp hm).2
  show placeD n rs (maskL (having rs m)) = pairD rs m
  unfold placeD pairD
  rw [meet_chosen hc, lot_chosen]
/-- the places that a choice has, by its bits -/
theorem spots_ok {r : Ev.Env} {c R : Nat} {L : Nat} {xs : List D} {Q : D × Store → Prop} (hc : c < 2 ^ L) (hL : L ≤ 1000) (e1 : r[1]? = some (some (.ref R))) (e3 : ∀ o, ((wipeE r [6]).set 6 o)[3]? = some (some (dN c))) (e6 : ∀ o, ((wipeE r [6]).set 6 o)[6]? = some o) (hR : S[R]? = some xs) (hx : xs.length = L) (h : ∀ S', Ext [] S S' → Q (dTn (lotN c), S')) :
    Ok (evE cf (.bi .tuple (.cons (.comp1 (.nm 6) (.rng1 (.bi .len (.cons (.var 1) .nil))) (.cmp .eq (.op .band (.op .shr (.var 3) (.var 6)) (.cst (.int 1))) (.cst (.int 1))) (.var 6) [6]) .nil)) r S) Q := by
  have sz : sizeLine = 2 ^ 24 := rfl
  refine e_bi (l_cons (comp1_pure (fun d => match d with
    | .int i => c.testBit i.toNat
    | _ => false) (fun d => d) (i_rng (e_bi (l_cons (e_var e1 (l_nil (bi_len (e_of hR) ⟨L, by rw [hx], by omega, ?_⟩)))))))) 
  refine ⟨fun n xs z => by (cases z), ?_, fun x hx => ?_, fun S' hS hc' => l_nil (bi_tuple hc' ?_)⟩
  · rw [rng_nat, List.length_map, List.length_range]
    omega
  · rw [rng_nat] at hx
    obtain ⟨i, hi, rfl⟩ := List.mem_map.mp hx
    refine ⟨_, rfl, fun S2 hS => b_cmp (e_op (e_op (e_var (e3 _) (e_var (e6 _) (o_shr (e_cst (o_and (b := 1) (e_cst (c_eq (b := 1) ⟨?_, .refl, fun _ => e_var (e6 _) ⟨rfl, .refl⟩⟩)))))))))⟩
    rw [bit_one]
    simp
  · have e : (((rngD 0 L).filter fun d => match d with
      | .int i => c.testBit i.toNat
      | _ => false).map fun d => d) = (lotN c).map dN := by
      rw [rng_nat, List.map_id', List.filter_map, lotN_to hc]
      rfl
    show Q (.tup (((rngD 0 L).filter fun d => match d with
      | .int i => c.testBit i.toNat
      | _ => false).map fun d => d), S')
    rw [e]
    exact h S' hS
theorem byPlaces_ok {co hv ll rk : Nat} (hC : IsCommon cf co) (hH : IsHaving cf hv) (hL : IsLawLot cf ll) (hR : IsRank cf rk) {n R : Nat} {rs : List Nat} (hn : n ≤ 10) (hl : rs.length ≤ 10) (T : Tab n rs) (hS : S[R]? = some (rs.map dN)) : Ok (runDf cf ⟨7, 2, bByPlaces co hv ll rk⟩ [dN n, .ref R] S) fun p => p.1 = .tup (pairsOf n rs) ∧ Ext [] S p.2 := by
  have sz : sizeLine = 2 ^ 24 := rfl
  have big : 2 ^ n ≤ 2 ^ 10 := Nat.pow_le_pow_right (by decide) hn
  have bigL : 2 ^ rs.length ≤ 2 ^ 10 := Nat.pow_le_pow_right (by decide) hl
  have lR := lt_at hS
  refine run_ok rfl (ss_cons (s_set (e_lst (l_nil ⟨Nat.zero_le _, ?_⟩))))
  have p0 : Ext [] S (S ++ [[]]) := .push
  refine ss_cons (s_for (i_rng (e_op (e_cst (e_bi (l_cons (e_var rfl (l_nil (bi_len (e_of (p0.at hS List.not_mem_nil)) (o_shl1 (by rw [List.length_map]; omega) ⟨2 ^ rs.length, by rw [List.length_map], by omega, ?_⟩))))))))))
  refine for_ok (g := none) (fun rem r S' => ∃ (j : Nat) (o3 o4 o5 o6 : Option D), j ≤ 2 ^ rs.length ∧ rem = (rngD 0 (2 ^ rs.length)).drop j ∧ r = [some (dN n), some (.ref R), some (.ref S.length), o3, o4, o5, o6] ∧ Ext [] S S' ∧ S'[S.length]? = some (((List.range j).filter (told n rs)).map (placeD n rs))) (fun _ _ _ _ => trivial) (fun x rem r S' h => ?_) (fun r S' h => ?_) ⟨0, none, none, none, none, Nat.zero_le _, rfl, rfl, .push, at_push⟩
  · obtain ⟨j, o3, o4, o5, o6, hj, f2, rfl, f4, f5⟩ := h
    have hj2 : j < 2 ^ rs.length := by
      have := congrArg List.length f2
      rw [List.length_cons, List.length_drop, rng_nat, List.length_map, List.length_range] at this
      omega
    have hl2 : j < (rngD 0 (2 ^ rs.length)).length := by rw [rng_nat, List.length_map, List.length_range]; exact hj2
    rw [List.drop_eq_getElem_cons hl2] at f2
    obtain ⟨f3, f6⟩ := List.cons.inj f2
    have f7 : x = dN j := by
      rw [f3]
      simp [rng_nat]
    subst f7
    have hlt : ∀ p, p ∈ lotN j → p < rs.length := fun p hp => bit_lt_of hj2 (mem_lotN.mp hp)
    refine ⟨_, rfl, ss_cons (s_set (spots_ok (L := rs.length) hj2 T.len rfl (fun o => rfl) (fun o => rfl) (f4.at hS List.not_mem_nil) (by rw [List.length_map]) fun S1 h1 => ?_))⟩
    have g1 : Ext [] S S1 := f4.trans h1
    refine ss_cons (s_set (e_call (l_cons (e_var rfl (l_cons (e_var rfl (l_cons (e_var rfl (l_nil ((hC n R rs (lotN j) S1 T.n20 hlt (g1.at hS List.not_mem_nil)).mono fun p hp => ?_))))))))))
    subst hp
    have mlt : meetAt n rs (lotN j) < 2 ^ n := meetAt_lt
    refine ss_cons (s_if2 (b_cmp (e_call (l_cons (e_var rfl (l_cons (e_var rfl (l_nil ((hH R (meetAt n rs (lotN j)) rs S1 T.len (g1.at hS List.not_mem_nil)).mono fun p hp => ?_)))))))))
    obtain ⟨d, S2⟩ := p
    obtain ⟨e, h2⟩ := hp
    dsimp only at e h2 ⊢
    subst e
    have g2 : Ext [] S S2 := g1.trans h2
    have c1 := (h1.trans h2).at f5 List.not_mem_nil
    refine e_var rfl (c_eqT ⟨fun z => ?_, fun z => ?_⟩)
    · have ht : told n rs j = true := z
      refine ss_cons (s_expr (e_mt (e_var rfl (l_cons (e_tup (l_cons (e_call (l_cons (e_var rfl (l_nil ((hL (meetAt n rs (lotN j)) S2 (by omega)).mono fun p hp => ?_)))))))))))
      obtain ⟨d, S3⟩ := p
      obtain ⟨e, h3⟩ := hp
      dsimp only at e h3 ⊢
      subst e
      refine l_cons (e_var rfl (l_nil ⟨(by show 2 ≤ 2 ^ 24; decide), l_nil (mt_append (h3.at c1 List.not_mem_nil) ?_ ?_)⟩))
      · rw [List.length_map]
        have := List.length_filter_le (told n rs) (List.range j)
        rw [List.length_range] at this
        omega
      · refine ss_nil (ss_nil ⟨j + 1, _, _, _, _, hj2, f6, rfl, (g2.trans h3).far (Nat.le_refl _), ?_⟩)
        rw [List.getElem?_set_self (lt_at (h3.at c1 List.not_mem_nil)), List.range_succ, List.filter_append, List.map_append]
        simp [ht]
    · have ht : told n rs j = false := z
      refine ss_nil (ss_nil ⟨j + 1, _, _, _, _, hj2, f6, rfl, g2, ?_⟩)
      rw [c1, List.range_succ, List.filter_append, List.map_append]
      simp [ht]
  · obtain ⟨j, o3, o4, o5, o6, hj, f2, rfl, f4, f5⟩ := h
    have hj2 : j = 2 ^ rs.length := by
      have := congrArg List.length f2
      rw [List.length_nil, List.length_drop, rng_nat, List.length_map, List.length_range] at this
      omega
    subst hj2
    refine ss_cons (s_ret (e_bi (l_cons (e_sort (e_var rfl ((sort_ok hR (fun c => lotN (meetAt n rs (lotN c))) (fun c => dTn (lotN c)) f5 (chosen_perm n rs) (chosen_order n rs)).mono fun p hp => ?_))))))
    subst hp
    refine l_nil (bi_tuple at_push ⟨?_, f4.trans .push⟩)
    show D.tup _ = _
    rw [places_pairs]
end
end Prog

set_option Elab.async false
set_option linter.all false
set_option maxRecDepth 100000
set_option maxHeartbeats 2000000
namespace Prog
open PySem PySem.Spec PySem.W Ev Lots

/-! ### texts of data -/
structure Fit (b k : Nat) (d : PyData) : Prop where
  sh : d.showable = true
  nd : d.hasDict = false
  lv : d.leavesShort 8 = true
  bk : d.bulk ≤ b
  dp : d.depth ≤ k
theorem short_all : ∀ i : Fin 64, (PyData.shown (.int (i.val : Int))).length ≤ 8 := by decide +kernel
theorem fit_nat {n : Nat} (h : n < 64) : Fit 0 0 (pN n) := by
  refine ⟨?_, rfl, ?_, ?_, ?_⟩
  · unfold pN
    rw [PyData.showable]
    refine decide_eq_true ?_
    have : (n : Int).natAbs = n := by omega
    rw [this]
    have h2 : n.log2 ≤ n := Nat.log2_le_self n
    omega
  · unfold pN
    rw [PyData.leavesShort]
    exact decide_eq_true (short_all ⟨n, h⟩)
  · unfold pN
    rw [PyData.bulk]
    exact Nat.le_refl _
  · unfold pN
    rw [PyData.depth]
    exact Nat.le_refl _
theorem fit_bl (b : Bool) : Fit 0 0 (.bool b) := ⟨by rw [PyData.showable], by rw [PyData.hasDict], by rw [PyData.leavesShort], by rw [PyData.bulk]; exact Nat.le_refl _, by rw [PyData.depth]; exact Nat.le_refl _⟩
theorem Fit.mono {b b' k k' : Nat} {d : PyData} (h : Fit b k d) (hb : b ≤ b') (hk : k ≤ k') : Fit b' k' d := ⟨h.sh, h.nd, h.lv, Nat.le_trans h.bk hb, Nat.le_trans h.dp hk⟩
theorem fits_all {b k : Nat} : ∀ {xs : List PyData}, (∀ x, x ∈ xs → Fit b k x) → PyData.showableAll xs = true ∧ PyData.hasDictAll xs = false ∧ PyData.leavesShortAll 8 xs = true ∧ PyData.bulkAll xs ≤ (b + 1) * xs.length ∧ PyData.depthAll xs ≤ k
  | [], _ => ⟨by rw [PyData.showableAll], by rw [PyData.hasDictAll], by rw [PyData.leavesShortAll], by rw [PyData.bulkAll]; exact Nat.zero_le _, by rw [PyData.depthAll]; exact Nat.zero_le _⟩
  | x :: xs, h => by
    obtain ⟨h1, h2, h3, h4, h5⟩ := fits_all fun y hy => h y (List.mem_cons_of_mem _ hy)
    have hx := h x List.mem_cons_self
    refine ⟨by rw [PyData.showableAll, hx.sh, h1]; rfl, by rw [PyData.hasDictAll, hx.nd, h2]; rfl, by rw [PyData.leavesShortAll, hx.lv, h3]; rfl, ?_, ?_⟩
    · rw [PyData.bulkAll, List.length_cons, Nat.mul_succ]
      have := hx.bk
      omega
    · rw [PyData.depthAll]
      have := hx.dp
      omega
theorem fit_tup {b k : Nat} {xs : List PyData} (h : ∀ x, x ∈ xs → Fit b k x) : Fit ((b + 1) * xs.length) (k + 1) (.tuple xs) := by
  obtain ⟨h1, h2, h3, h4, h5⟩ := fits_all h
  refine ⟨by rw [PyData.showable]; exact h1, by rw [PyData.hasDict]; exact h2, by rw [PyData.leavesShort]; exact h3, by rw [PyData.bulk]; exact h4, by rw [PyData.depth]; omega⟩
theorem fit_lst {b k : Nat} {xs : List PyData} (h : ∀ x, x ∈ xs → Fit b k x) : Fit ((b + 1) * xs.length) (k + 1) (.list xs) := by
  obtain ⟨h1, h2, h3, h4, h5⟩ := fits_all h
  refine ⟨by rw [PyData.showable]; exact h1, by rw [PyData.hasDict]; exact h2, by rw [PyData.leavesShort]; exact h3, by rw [PyData.bulk]; exact h4, by rw [PyData.depth]; omega⟩
theorem fit_T {l : List Nat} (h : ∀ x, x ∈ l → x < 64) (hl : l.length ≤ 64) : Fit 64 1 (pT l) := by
  refine (fit_tup (b := 0) (k := 0) fun x hx => ?_).mono (by rw [List.length_map]; omega) (Nat.le_refl _)
  obtain ⟨n, hn, rfl⟩ := List.mem_map.mp hx
  exact fit_nat (h n hn)
theorem rep_ok {x : D} {d : PyData} {S : Store} {b : Nat} {Q : D × Store → Prop} (e : dat 8 S x = some d) (hs : isSeq x = true) (f : Fit b 20 d) (hb : b ≤ 2 ^ 20) (h : Q (.str d.shown, S)) : Ok (biR .repr [x] S) Q := by
  refine .of (a := (.str d.shown, S)) ?_ h
  unfold biR
  dsimp only
  rw [e]
  dsimp only
  rw [if_pos ⟨hs, f.sh, f.nd, PyData.shown_fits_bulk (by decide) (by decide) f.lv (Nat.le_trans f.bk hb), f.dp⟩]
theorem c_neS {a : Str} {S : Store} {Q : Bool → Prop} (h : Q false) : Ok (cmR .ne (.str a) (.str a) S) Q := by
  refine .of (a := false) ?_ h
  unfold cmR eqR
  simp
theorem c_eqS {a : Str} {S : Store} {Q : Bool → Prop} (h : Q true) : Ok (cmR .eq (.str a) (.str a) S) Q := by
  refine .of (a := true) ?_ h
  unfold cmR eqR
  simp

/-! ### expressions that only look, in a store that has what they look at -/
structure Keep (B : Store → Prop) : Prop where
  mv : ∀ S S', B S → Ext [] S S' → B S'
def Pv (cf : CallF) (B : Store → Prop) (r : Ev.Env) (e : Ex) (d : D) : Prop := ∀ S, B S → Ok (evE cf e r S) fun p => p.1 = d ∧ Ext [] S p.2
def PvL (cf : CallF) (B : Store → Prop) (r : Ev.Env) (e : Exs) (d : List D) : Prop := ∀ S, B S → Ok (evL cf e r S) fun p => p.1 = d ∧ Ext [] S p.2
def Pc (cf : CallF) (B : Store → Prop) (f : Nat) (ds : List D) (d : D) : Prop := ∀ S, B S → Ok (cf f ds S) fun p => p.1 = d ∧ Ext [] S p.2
section
variable {cf : CallF} {B : Store → Prop} {r : Ev.Env}
theorem keep_at {n : Nat} {xs : List D} : Keep fun S => S[n]? = some xs := ⟨fun S S' h e => e.at h List.not_mem_nil⟩
theorem keep_and {C : Store → Prop} (a : Keep B) (b : Keep C) : Keep fun S => B S ∧ C S := ⟨fun S S' h e => ⟨a.mv S S' h.1 e, b.mv S S' h.2 e⟩⟩
theorem pv_var {i : Nat} {d : D} (e : r[i]? = some (some d)) : Pv cf B r (.var i) d := fun S _ => e_var e ⟨rfl, .refl⟩
theorem pv_cst {d : D} : Pv cf B r (.cst d) d := fun S _ => e_cst ⟨rfl, .refl⟩
theorem pvl_nil : PvL cf B r .nil [] := fun S _ => l_nil ⟨rfl, .refl⟩
theorem pvl_cons {e : Ex} {es : Exs} {d : D} {ds : List D} (k : Keep B) (h : Pv cf B r e d) (hs : PvL cf B r es ds) : PvL cf B r (.cons e es) (d :: ds) := fun S b => by
  refine l_cons ((h S b).mono fun p hp => ?_)
  refine (hs p.2 (k.mv S p.2 b hp.2)).mono fun q hq => ⟨?_, hp.2.trans hq.2⟩
  rw [hp.1, hq.1]
theorem pv_tup {es : Exs} {ds : List D} (hs : PvL cf B r es ds) (hl : ds.length ≤ 1000) : Pv cf B r (.tup es) (.tup ds) := fun S b => by
  have sz : sizeLine = 2 ^ 24 := rfl
  refine e_tup ((hs S b).mono fun p hp => ?_)
  rw [hp.1]
  exact ⟨by omega, rfl, hp.2⟩
theorem pv_call {f : Nat} {es : Exs} {ds : List D} {d : D} (k : Keep B) (hs : PvL cf B r es ds) (hc : Pc cf B f ds d) : Pv cf B r (.call f es) d := fun S b => by
  refine e_call ((hs S b).mono fun p hp => ?_)
  rw [hp.1]
  exact (hc p.2 (k.mv S p.2 b hp.2)).mono fun q hq => ⟨hq.1, hp.2.trans hq.2⟩
theorem pv_callP {f : Nat} {es ks : Exs} {as bs ds : List D} {pm : List Nat} {d : D} (k : Keep B) (hs : PvL cf B r es as) (hk : PvL cf B r ks bs) (e : permL (as ++ bs) pm = some ds) (hc : Pc cf B f ds d) : Pv cf B r (.callP f es ks pm) d := fun S b => by
  refine e_callP ((hs S b).mono fun p hp => ?_)
  have b1 := k.mv S p.2 b hp.2
  refine (hk p.2 b1).mono fun q hq => ?_
  have b2 := k.mv p.2 q.2 b1 hq.2
  rw [hp.1, hq.1]
  exact .of e ((hc q.2 b2).mono fun u hu => ⟨hu.1, (hp.2.trans hq.2).trans hu.2⟩)
theorem pv_op {o : Op2} {a b : Ex} {x y d : D} (k : Keep B) (ha : Pv cf B r a x) (hb : Pv cf B r b y) (h : ∀ S, Ok (opR o x y S) fun p => p = (d, S)) : Pv cf B r (.op o a b) d := fun S s => by
  refine e_op ((ha S s).mono fun p hp => (hb p.2 (k.mv S p.2 s hp.2)).mono fun q hq => ?_)
  rw [hp.1, hq.1]
  refine (h q.2).mono fun u hu => ?_
  subst hu
  exact ⟨rfl, hp.2.trans hq.2⟩
theorem pv_cmp {o : Cm} {a b : Ex} {x y : D} {c : Bool} (k : Keep B) (ha : Pv cf B r a x) (hb : Pv cf B r b y) (h : ∀ S, Ok (cmR o x y S) fun p => p = c) : Pv cf B r (.cmp o a b) (.bl c) := fun S s => by
  refine e_cmp ((ha S s).mono fun p hp => (hb p.2 (k.mv S p.2 s hp.2)).mono fun q hq => ?_)
  rw [hp.1, hq.1]
  refine (h q.2).mono fun u hu => ?_
  subst hu
  exact ⟨rfl, hp.2.trans hq.2⟩
theorem pv_idx {a i : Ex} {x : D} {xs : List D} {d : D} {n : Nat} (k : Keep B) (ha : Pv cf B r a x) (hi : Pv cf B r i (dN n)) (e : ∀ S, B S → seqOf S x = some xs) (e2 : xs[n]? = some d) : Pv cf B r (.idx a i) d := fun S s => by
  refine e_idx ((ha S s).mono fun p hp => (hi p.2 (k.mv S p.2 s hp.2)).mono fun q hq => ?_)
  rw [hp.1, hq.1]
  exact ix_nat (e q.2 (k.mv _ _ (k.mv S p.2 s hp.2) hq.2)) e2 ⟨rfl, hp.2.trans hq.2⟩
/-- the text of a written list -/
theorem pv_repr {es : Exs} {ds : List D} {pd : List PyData} {b : Nat} (hs : PvL cf B r es ds) (hd : ∀ n S, datL n S ds = some pd) (f : Fit b 20 (.list pd)) (hb : b ≤ 2 ^ 20) (hl : ds.length ≤ 1000) : Pv cf B r (.bi .repr (.cons (.lst es) .nil)) (.str (PyData.shown (.list pd))) := fun S s => by
  have sz : sizeLine = 2 ^ 24 := rfl
  refine e_bi (l_cons (e_lst ((hs S s).mono fun p hp => ?_)))
  obtain ⟨ds', S1⟩ := p
  obtain ⟨e, h1⟩ := hp
  dsimp only at e h1 ⊢
  subst e
  refine ⟨by omega, l_nil (rep_ok (d := .list pd) ?_ rfl f hb ⟨rfl, h1.trans .push⟩)⟩
  simp only [dat, at_push, hd]
  rfl
/-- .. of a list that is there -/
theorem pv_reprR {i k : Nat} {ds : List D} {pd : List PyData} {b : Nat} (hv : r[i]? = some (some (.ref k))) (hk : ∀ S, B S → S[k]? = some ds) (hd : ∀ n S, datL n S ds = some pd) (f : Fit b 20 (.list pd)) (hb : b ≤ 2 ^ 20) : Pv cf B r (.bi .repr (.cons (.var i) .nil)) (.str (PyData.shown (.list pd))) := fun S s => by
  refine e_bi (l_cons (e_var hv (l_nil (rep_ok (d := .list pd) ?_ rfl f hb ⟨rfl, .refl⟩))))
  simp only [dat, hk S s, hd]
  rfl
/-- a check that holds: go on -/
theorem s_check {a b : Ex} {t : Sxs} {x : Str} {S : Store} {Q : Fl → Prop} (k : Keep B) (s : B S) (ha : Pv cf B r a (.str x)) (hb : Pv cf B r b (.str x)) (h : ∀ S', Ext [] S S' → Q (.nx r S')) : Ok (evS cf (.iff (.cmp .ne a b) t .nil) r S) Q := by
  refine s_if2 (b_cmp ((ha S s).mono fun p hp => (hb p.2 (k.mv S p.2 s hp.2)).mono fun q hq => ?_))
  rw [hp.1, hq.1]
  exact c_neS ⟨fun z => absurd z Bool.false_ne_true, fun _ => ss_nil (h q.2 (hp.2.trans hq.2))⟩
end
end Prog

set_option Elab.async false
set_option linter.all false
set_option maxRecDepth 100000
set_option maxHeartbeats 2000000
namespace Lots
theorem clo_sub {n m r : Nat} {rs : List Nat} (hr : r ∈ rs) (h : m &&& r = m) : clo n rs m &&& r = clo n rs m := sub_iff.mpr fun i hi => (bit_clo.mp hi).2 r hr h
theorem having_clo {n m : Nat} {rs : List Nat} (hm : m < 2 ^ n) : having rs (clo n rs m) = having rs m := by
  refine up_ext (up_having _ _) (up_having _ _) fun i => ?_
  rw [mem_having, mem_having]
  refine and_congr_right fun hi => ⟨fun h => ?_, fun h => clo_sub (getD_mem hi) h⟩
  exact sub_iff.mpr fun j hj => sub_iff.mp h j (clo_has hm hj)
theorem clo_clo {n m : Nat} {rs : List Nat} (hm : m < 2 ^ n) : clo n rs (clo n rs m) = clo n rs m := by rw [← clo_having n rs (clo n rs m), having_clo hm, clo_having]
end Lots
namespace Prog
open PySem PySem.Spec PySem.W Ev Lots

def bAsking (ll hv co sh mt im : Nat) : Sxs := (.cons (.set (.nm 3) (.idx (.var 0) (.cst (.int 0)))) (.cons (.for (.nm 4) (.ex (.var 2)) (.cons (.par [7, 8] (.cons (.call ll (.cons (.var 4) .nil)) (.cons (.call hv (.cons (.var 1) (.cons (.var 4) .nil))) .nil))) (.cons (.set (.nm 5) (.call ll (.cons (.call co (.cons (.var 3) (.cons (.var 1) (.cons (.var 8) .nil)))) .nil))) (.cons (.set (.nm 6) (.lst (.cons (.call sh (.cons (.var 0) (.cons (.var 7) .nil))) (.cons (.callP sh .nil (.cons (.var 7) (.cons (.var 0) .nil)) [1, 0]) (.cons (.call mt (.cons (.var 0) (.cons (.var 8) .nil))) (.cons (.call sh (.cons (.var 0) (.cons (.var 5) .nil))) .nil)))))) (.cons (.set (.nm 6) (.op .add (.var 6) (.lst (.cons (.call im (.cons (.var 0) (.cons (.var 7) .nil))) (.cons (.callP im .nil (.cons (.var 5) (.cons (.var 0) .nil)) [1, 0]) .nil))))) (.cons (.iff (.cmp .ne (.bi .repr (.cons (.var 6) .nil)) (.bi .repr (.cons (.lst (.cons (.var 8) (.cons (.var 8) (.cons (.var 5) (.cons (.var 8) (.cons (.cmp .eq (.var 7) (.var 5)) (.cons (.cst (.bl true)) .nil))))))) .nil))) (.cons (.ret (.cst (.bl false))) .nil) .nil) .nil)))))) (.cons (.ret (.cst (.bl true))) .nil)))
def bChoice (dr ll co mt : Nat) : Sxs := (.cons (.for (.nm 3) (.rng1 (.cst (.int 4))) (.cons (.set (.nm 4) (.bi .tuple (.cons (.comp1 (.nm 6) (.rng1 (.bi .len (.cons (.var 2) .nil))) (.cmp .eq (.call dr (.cons (.var 0) (.cons (.op .add (.cst (.int 2)) (.var 3)) .nil))) (.cst (.int 0))) (.var 6) [6]) .nil))) (.cons (.set (.nm 5) (.call ll (.cons (.call co (.cons (.idx (.var 1) (.cst (.int 0))) (.cons (.var 2) (.cons (.var 4) .nil)))) .nil))) (.cons (.iff (.cmp .ne (.bi .repr (.cons (.lst (.cons (.call mt (.cons (.var 1) (.cons (.var 4) .nil))) (.cons (.callP mt .nil (.cons (.var 4) (.cons (.var 1) .nil)) [1, 0]) .nil))) .nil)) (.bi .repr (.cons (.lst (.cons (.var 5) (.cons (.var 5) .nil))) .nil))) (.cons (.ret (.cst (.bl false))) .nil) .nil) .nil)))) (.cons (.ret (.cst (.bl true))) .nil))

/-- the size of the law's tables -/
structure Tb (n : Nat) (rs : List Nat) : Prop where
  n10 : n ≤ 10
  lt : ∀ r, r ∈ rs → r < 2 ^ n
  len : rs.length ≤ 64
theorem Tb.tab {n : Nat} {rs : List Nat} (T : Tb n rs) : Tab n rs := ⟨Nat.le_trans T.n10 (by decide), T.lt, Nat.le_trans T.len (by decide)⟩
def IsAsking (cf : CallF) (i : Nat) : Prop := ∀ (n R A : Nat) (rs as : List Nat) (S : Store), Tb n rs → (∀ a, a ∈ as → a < 2 ^ n) → S[R]? = some (rs.map dN) → S[A]? = some (as.map dN) → Ok (cf i [tabD n rs, .ref R, .ref A] S) fun p => p.1 = .bl true ∧ Ext [] S p.2
def IsChoice (cf : CallF) (i : Nat) : Prop := ∀ (r g kn n R : Nat) (rs : List Nat) (S : Store), Spr r g kn S → R ≠ r → R ≠ g → Tb n rs → S[R]? = some (rs.map dN) → Ok (cf i [.ref r, tabD n rs, .ref R] S) fun p => p.1 = .bl true ∧ Spr r g kn p.2 ∧ Ext [r, g] S p.2
section
variable {cf : CallF} {S : Store}
theorem lot_fit {n m : Nat} (hn : n ≤ 10) (h : m < 2 ^ n) : Fit 64 1 (pT (lotN m)) := fit_T (fun x hx => by have := bit_lt_of h (mem_lotN.mp hx); omega) (by have := lot_len h; omega)
theorem hav_fit {rs : List Nat} {m : Nat} (h : rs.length ≤ 64) : Fit 64 1 (pT (having rs m)) := fit_T (fun x hx => by have := having_lt hx; omega) (by have := having_len rs m; omega)
theorem o_addL {a b : Nat} {xs ys : List D} {S : Store} {Q : D × Store → Prop} (ha : S[a]? = some xs) (hb : S[b]? = some ys) (hl : xs.length + ys.length ≤ sizeLine) (h : Q (.ref S.length, S ++ [xs ++ ys])) : Ok (opR .add (.ref a) (.ref b) S) Q := by
  refine .of (a := (.ref S.length, S ++ [xs ++ ys])) ?_ h
  unfold opR
  simp only [ha, hb, if_pos hl]
theorem lot_small {n m x : Nat} (hn : n ≤ 10) (h : m < 2 ^ n) (hx : x ∈ lotN m) : x ≤ 1000000 := by
  have := bit_lt_of h (mem_lotN.mp hx)
  omega
theorem asking_ok {ll hv co sh mt im : Nat} (hL : IsLawLot cf ll) (hH : IsHaving cf hv) (hC : IsCommon cf co) (hS : IsShared cf sh) (hM : IsMeetOf cf mt) (hI : IsIsMeet cf im) {n R A : Nat} {rs as : List Nat} (T : Tb n rs) (ha : ∀ a, a ∈ as → a < 2 ^ n) (hR : S[R]? = some (rs.map dN)) (hA : S[A]? = some (as.map dN)) :
    Ok (runDf cf ⟨9, 3, bAsking ll hv co sh mt im⟩ [tabD n rs, .ref R, .ref A] S) fun p => p.1 = .bl true ∧ Ext [] S p.2 := by
  have sz : sizeLine = 2 ^ 24 := rfl
  have big : 2 ^ n ≤ 2 ^ 10 := Nat.pow_le_pow_right (by decide) T.n10
  have TT := T.tab
  refine run_ok rfl (ss_cons (s_set (e_idx (e_var rfl (e_cst (ix_nat (i := 0) rfl rfl ?_))))))
  refine ss_cons (s_for (i_ex (e_var rfl (it_ref hA ?_))))
  refine for_ok (g := some (A, as.map dN)) (fun rem e S' => Ext [] S S' ∧ ∃ (ys : List Nat) (o4 o5 o6 o7 o8 : Option D), rem = ys.map dN ∧ (∀ y, y ∈ ys → y < 2 ^ n) ∧ e = [some (tabD n rs), some (.ref R), some (.ref A), some (dN n), o4, o5, o6, o7, o8]) (fun _ _ S' h => h.1.at hA List.not_mem_nil) (fun x rem e S' h => ?_) (fun e S' h => ?_) ⟨.refl, as, none, none, none, none, none, rfl, ha, rfl⟩
  · obtain ⟨h1, ys, o4, o5, o6, o7, o8, e1, e2, rfl⟩ := h
    cases ys with
    | nil => cases e1
    | cons m ys =>
      cases e1
      have hm := e2 m List.mem_cons_self
      have kB : Keep fun S : Store => S[R]? = some (rs.map dN) := keep_at
      have b1 := h1.at hR List.not_mem_nil
      have cL : ∀ m, m < 2 ^ n → Pc cf (fun S => S[R]? = some (rs.map dN)) ll [dN m] (dTn (lotN m)) := fun m hm S _ => hL m S (by omega)
      have cH : Pc cf (fun S => S[R]? = some (rs.map dN)) hv [.ref R, dN m] (dTn (having rs m)) := fun S b => hH R m rs S TT.len b
      have cC : Pc cf (fun S => S[R]? = some (rs.map dN)) co [dN n, .ref R, dTn (having rs m)] (dN (clo n rs m)) := fun S b => (hC n R rs (having rs m) S TT.n20 (fun p => having_lt) b).mono fun p hp => by
        subst hp
        rw [clo_having]
        exact ⟨rfl, .refl⟩
      have lc : clo n rs m < 2 ^ n := clo_lt
      have cS : ∀ c, c < 2 ^ n → having rs c = having rs m → Pc cf (fun S => S[R]? = some (rs.map dN)) sh [tabD n rs, dTn (lotN c)] (dTn (having rs m)) := fun c hc e S _ => (hS n rs (lotN c) S TT fun x => lot_small T.n10 hc).mono fun p hp => by
        rw [maskL_lotN, e] at hp
        exact hp
      have cM : Pc cf (fun S => S[R]? = some (rs.map dN)) mt [tabD n rs, dTn (having rs m)] (dTn (lotN (clo n rs m))) := fun S _ => (hM n rs (having rs m) S TT (fun p => having_lt) (Nat.le_trans (having_len _ _) TT.len)).mono fun p hp => by
        rw [clo_having] at hp
        exact hp
      have cI : ∀ c, c < 2 ^ n → Pc cf (fun S => S[R]? = some (rs.map dN)) im [tabD n rs, dTn (lotN c)] (.bl (decide (lotN (clo n rs c) = lotN c))) := fun c hc S _ => (hI n rs (lotN c) S TT fun x => lot_small T.n10 hc).mono fun p hp => by
        rw [maskL_lotN] at hp
        exact hp
      refine ⟨_, rfl, ss_cons (s_par (((pvl_cons kB (pv_call kB (pvl_cons kB (pv_var rfl) pvl_nil) (cL m hm)) (pvl_cons kB (pv_call kB (pvl_cons kB (pv_var rfl) (pvl_cons kB (pv_var rfl) pvl_nil)) cH) pvl_nil)) S' b1).mono fun p hp => ?_))⟩
      obtain ⟨ds, S1⟩ := p
      obtain ⟨e, g1⟩ := hp
      dsimp only at e g1 ⊢
      subst e
      refine ⟨rfl, ?_⟩
      have b2 := g1.at b1 List.not_mem_nil
      refine ss_cons (s_set ((pv_call kB (pvl_cons kB (pv_call kB (pvl_cons kB (pv_var rfl) (pvl_cons kB (pv_var rfl) (pvl_cons kB (pv_var rfl) pvl_nil))) cC) pvl_nil) (cL _ lc) S1 b2).mono fun p hp => ?_))
      obtain ⟨d, S2⟩ := p
      obtain ⟨e, g2⟩ := hp
      dsimp only at e g2 ⊢
      subst e
      have b3 := g2.at b2 List.not_mem_nil
      have hcc : having rs (clo n rs m) = having rs m := having_clo hm
      refine ss_cons (s_set (e_lst (((pvl_cons kB (pv_call kB (pvl_cons kB (pv_var rfl) (pvl_cons kB (pv_var rfl) pvl_nil)) (cS m hm rfl)) (pvl_cons kB (pv_callP kB pvl_nil (pvl_cons kB (pv_var rfl) (pvl_cons kB (pv_var rfl) pvl_nil)) rfl (cS m hm rfl)) (pvl_cons kB (pv_call kB (pvl_cons kB (pv_var rfl) (pvl_cons kB (pv_var rfl) pvl_nil)) cM) (pvl_cons kB (pv_call kB (pvl_cons kB (pv_var rfl) (pvl_cons kB (pv_var rfl) pvl_nil)) (cS _ lc hcc)) pvl_nil)))) S2 b3).mono fun p hp => ?_)))
      obtain ⟨ds, S3⟩ := p
      obtain ⟨e, g3⟩ := hp
      dsimp only at e g3 ⊢
      subst e
      refine ⟨(by show 4 ≤ 2 ^ 24; decide), ?_⟩
      have b4 := (g3.trans (Ext.push (x := [dTn (having rs m), dTn (having rs m), dTn (lotN (clo n rs m)), dTn (having rs m)]))).at b3 List.not_mem_nil
      refine ss_cons (s_set (e_op (e_var rfl (e_lst (((pvl_cons kB (pv_call kB (pvl_cons kB (pv_var rfl) (pvl_cons kB (pv_var rfl) pvl_nil)) (cI m hm)) (pvl_cons kB (pv_callP kB pvl_nil (pvl_cons kB (pv_var rfl) (pvl_cons kB (pv_var rfl) pvl_nil)) rfl (cI _ lc)) pvl_nil)) _ b4).mono fun p hp => ?_)))))
      obtain ⟨ds, S4⟩ := p
      obtain ⟨e, g4⟩ := hp
      dsimp only at e g4 ⊢
      subst e
      refine ⟨(by show 2 ≤ 2 ^ 24; decide), o_addL (Ext.at (g4.trans .push) at_push List.not_mem_nil) at_push (by show 4 + 2 ≤ 2 ^ 24; decide) ?_⟩
      -- the check
      have g5 := ((((h1.trans g1).trans g2).trans g3).trans (Ext.push (x := [dTn (having rs m), dTn (having rs m), dTn (lotN (clo n rs m)), dTn (having rs m)]))).trans (g4.trans (Ext.push (x := [D.bl (decide (lotN (clo n rs m) = lotN m)), D.bl (decide (lotN (clo n rs (clo n rs m)) = lotN (clo n rs m)))])))
      have clo2 : decide (lotN (clo n rs (clo n rs m)) = lotN (clo n rs m)) = true := by rw [clo_clo hm]; exact decide_eq_true rfl
      have flip : decide (lotN m = lotN (clo n rs m)) = decide (lotN (clo n rs m) = lotN m) := decide_eq_decide.mpr ⟨Eq.symm, Eq.symm⟩
      refine ss_cons (s_check (x := PyData.shown (.list [pT (having rs m), pT (having rs m), pT (lotN (clo n rs m)), pT (having rs m), .bool (decide (lotN (clo n rs m) = lotN m)), .bool true])) (keep_at (n := (S4 ++ [[D.bl (decide (lotN (clo n rs m) = lotN m)), D.bl (decide (lotN (clo n rs (clo n rs m)) = lotN (clo n rs m)))]]).length) (xs := [dTn (having rs m), dTn (having rs m), dTn (lotN (clo n rs m)), dTn (having rs m), .bl (decide (lotN (clo n rs m) = lotN m)), .bl true])) ?_ (pv_reprR (b := 65 * 6) rfl (fun S b => b) (fun n' S => ?_) ?_ (by decide)) (pv_repr (b := 65 * 6) (pvl_cons keep_at (pv_var rfl) (pvl_cons keep_at (pv_var rfl) (pvl_cons keep_at (pv_var rfl) (pvl_cons keep_at (pv_var rfl) (pvl_cons keep_at (pv_cmp keep_at (pv_var rfl) (pv_var rfl) (c := decide (lotN (clo n rs m) = lotN m)) fun S => c_eqT flip) (pvl_cons keep_at pv_cst pvl_nil)))))) (fun n' S => ?_) ?_ (by decide) (by show 6 ≤ 1000; decide)) fun S5 g6 => ss_nil ⟨(g5.trans .push).trans g6, ys, _, _, _, _, _, rfl, fun y hy => e2 y (List.mem_cons_of_mem _ hy), rfl⟩)
      · rw [← clo2]
        exact at_push
      · simp only [datL, dat, dat_nats]
        rfl
      · refine (fit_lst (b := 64) (k := 1) fun x hx => ?_).mono (Nat.le_refl _) (by decide)
        simp only [List.mem_cons, List.not_mem_nil, or_false] at hx
        rcases hx with rfl | rfl | rfl | rfl | rfl | rfl
        · exact hav_fit T.len
        · exact hav_fit T.len
        · exact lot_fit T.n10 lc
        · exact hav_fit T.len
        · exact (fit_bl _).mono (by decide) (by decide)
        · exact (fit_bl _).mono (by decide) (by decide)
      · simp only [datL, dat, dat_nats]
        rfl
      · refine (fit_lst (b := 64) (k := 1) fun x hx => ?_).mono (Nat.le_refl _) (by decide)
        simp only [List.mem_cons, List.not_mem_nil, or_false] at hx
        rcases hx with rfl | rfl | rfl | rfl | rfl | rfl
        · exact hav_fit T.len
        · exact hav_fit T.len
        · exact lot_fit T.n10 lc
        · exact hav_fit T.len
        · exact (fit_bl _).mono (by decide) (by decide)
        · exact (fit_bl _).mono (by decide) (by decide)
  · obtain ⟨h1, ys, o4, o5, o6, o7, o8, e1, e2, rfl⟩ := h
    exact ss_cons (s_ret (e_cst ⟨rfl, h1⟩))
end
end Prog

set_option Elab.async false
set_option linter.all false
set_option maxRecDepth 100000
set_option maxHeartbeats 2000000
namespace Prog
open PySem PySem.Spec PySem.W Ev Lots
theorem outs_nats {rel : D → Option D → Prop} (h : ∀ x y, rel (dN x) (some y) → y = dN x) : ∀ {xs : List Nat} {ys : List D}, Outs rel (xs.map dN) ys → ∃ ps : List Nat, ys = ps.map dN ∧ ∀ p, p ∈ ps → p ∈ xs
  | [], _, .nil => ⟨[], rfl, fun _ z => z⟩
  | x :: xs, _, .skip _ t => by
    obtain ⟨ps, e, k⟩ := outs_nats h t
    exact ⟨ps, e, fun p hp => List.mem_cons_of_mem _ (k p hp)⟩
  | x :: xs, _, .take r t => by
    obtain ⟨ps, e, k⟩ := outs_nats h t
    refine ⟨x :: ps, by rw [h x _ r, e]; rfl, fun p hp => ?_⟩
    rcases List.mem_cons.mp hp with rfl | hp
    · exact List.mem_cons_self
    · exact List.mem_cons_of_mem _ (k p hp)
section
variable {cf : CallF} {S : Store}
theorem choice_ok {dr ll co mt : Nat} (hD : IsDraw cf dr) (hL : IsLawLot cf ll) (hC : IsCommon cf co) (hM : IsMeetOf cf mt) {r g kn n R : Nat} {rs : List Nat} (hS : Spr r g kn S) (n1 : R ≠ r) (n2 : R ≠ g) (T : Tb n rs) (hR : S[R]? = some (rs.map dN)) :
    Ok (runDf cf ⟨7, 3, bChoice dr ll co mt⟩ [.ref r, tabD n rs, .ref R] S) fun p => p.1 = .bl true ∧ Spr r g kn p.2 ∧ Ext [r, g] S p.2 := by
  have sz : sizeLine = 2 ^ 24 := rfl
  have big : 2 ^ n ≤ 2 ^ 10 := Nat.pow_le_pow_right (by decide) T.n10
  have TT := T.tab
  have hW : R ∉ [r, g] := by simp [n1, n2]
  refine run_ok rfl (ss_cons (s_for (i_rng (e_cst ⟨4, rfl, by decide, ?_⟩))))
  refine for_ok (g := none) (fun rem e S' => Spr r g kn S' ∧ Ext [r, g] S S' ∧ ∃ (ts : List Nat) (o3 o4 o5 o6 : Option D), rem = ts.map dN ∧ (∀ t, t ∈ ts → t < 4) ∧ e = [some (.ref r), some (tabD n rs), some (.ref R), o3, o4, o5, o6]) (fun _ _ _ _ => trivial) (fun x rem e S' h => ?_) (fun e S' h => ?_) ⟨hS, .refl, List.range 4, none, none, none, none, rng_nat 4, fun t ht => List.mem_range.mp ht, rfl⟩
  · obtain ⟨s1, x1, ts, o3, o4, o5, o6, e1, e2, rfl⟩ := h
    cases ts with
    | nil => cases e1
    | cons t ts =>
      cases e1
      have ht := e2 t List.mem_cons_self
      have b1 := x1.at hR hW
      obtain ⟨lr, lg, lk⟩ := s1.lt
      refine ⟨_, rfl, ss_cons (s_set (e_bi (l_cons (comp1_ok [r, g] (Spr r g kn) (fun x o => o = none ∨ o = some x) (i_rng (e_bi (l_cons (e_var rfl (l_nil (bi_len (e_of b1) ⟨rs.length, by rw [List.length_map], by have := T.len; omega, ?_⟩)))))))))) ⟩
      refine ⟨fun n hn => ?_, fun n xs z => (by cases z), ?_, s1, fun S1 S2 a b c => c.on (b := S'.length) a lr lg lk, fun x hx => ?_, fun S2 ys a b c d => l_nil ?_⟩
      · simp only [List.mem_cons, List.not_mem_nil, or_false] at hn
        show n < S'.length
        rcases hn with rfl | rfl
        · exact lr
        · exact lg
      · show (rngD 0 rs.length).length ≤ _
        rw [rng_nat, List.length_map, List.length_range]
        have := T.len
        omega
      · refine ⟨_, rfl, fun S2 hS2 hP => b_cmp (e_call (l_cons (e_var rfl (l_cons (e_op (e_cst (e_var rfl (o_add (a := 2) (l_nil ((hD r g kn (2 + t) S2 hP (by omega) (by omega)).mono fun p hp => ?_))))))))))⟩
        obtain ⟨d, S3⟩ := p
        obtain ⟨v, hv, e, q1, q2⟩ := hp
        dsimp only at e q1 q2 ⊢
        subst e
        refine e_cst (c_eq (b := 0) ?_)
        split
        · exact e_var rfl ⟨q2, q1, .inr rfl⟩
        · exact ⟨q2, q1, .inl rfl⟩
      · have d' : Outs (fun x o => o = none ∨ o = some x) (rngD 0 rs.length) ys := d
        rw [rng_nat] at d'
        have rel : ∀ (x : Nat) (y : D), (some y = none ∨ some y = some (dN x)) → y = dN x := fun x y h => by
          rcases h with h | h
          · cases h
          · cases h; rfl
        obtain ⟨ps, rfl, hp⟩ := outs_nats rel d'
        have hpl := outs_len d'
        rw [List.length_map, List.length_map, List.length_range] at hpl
        have hp2 : ∀ p, p ∈ ps → p < rs.length := fun p h => List.mem_range.mp (hp p h)
        have x2 : Ext [r, g] S S2 := x1.trans a
        have b2 := x2.at hR hW
        have kB : Keep fun S : Store => S[R]? = some (rs.map dN) := keep_at
        have cC : Pc cf (fun S => S[R]? = some (rs.map dN)) co [dN n, .ref R, dTn ps] (dN (meetAt n rs ps)) := fun S b => (hC n R rs ps S TT.n20 hp2 b).mono fun p hp => by
          subst hp
          exact ⟨rfl, .refl⟩
        have lc : meetAt n rs ps < 2 ^ n := meetAt_lt
        have cL : Pc cf (fun S => S[R]? = some (rs.map dN)) ll [dN (meetAt n rs ps)] (dTn (lotN (meetAt n rs ps))) := fun S _ => hL _ S (by omega)
        have cM : Pc cf (fun S => S[R]? = some (rs.map dN)) mt [tabD n rs, dTn ps] (dTn (lotN (meetAt n rs ps))) := fun S _ => hM n rs ps S TT hp2 (by have := T.len; omega)
        refine bi_tuple c ?_
        refine ss_cons (s_set ((pv_call kB (pvl_cons kB (pv_call kB (pvl_cons kB (pv_idx (n := 0) kB (pv_var rfl) pv_cst (fun _ _ => rfl) rfl) (pvl_cons kB (pv_var rfl) (pvl_cons kB (pv_var rfl) pvl_nil))) cC) pvl_nil) cL S2 b2).mono fun p hp => ?_))
        obtain ⟨d, S3⟩ := p
        obtain ⟨e, g3⟩ := hp
        dsimp only at e g3 ⊢
        subst e
        have b3 := g3.at b2 List.not_mem_nil
        have f : Fit (65 * 2) 20 (.list [pT (lotN (meetAt n rs ps)), pT (lotN (meetAt n rs ps))]) := by
          refine (fit_lst (b := 64) (k := 1) fun x hx => ?_).mono (Nat.le_refl _) (by decide)
          simp only [List.mem_cons, List.not_mem_nil, or_false] at hx
          rcases hx with rfl | rfl <;> exact lot_fit T.n10 lc
        have dd : ∀ (n' : Nat) (S : Store), datL n' S [dTn (lotN (meetAt n rs ps)), dTn (lotN (meetAt n rs ps))] = some [pT (lotN (meetAt n rs ps)), pT (lotN (meetAt n rs ps))] := fun n' S => by
          simp only [datL, dat, dat_nats]
          rfl
        refine ss_cons (s_check kB b3 (pv_repr (pvl_cons kB (pv_call kB (pvl_cons kB (pv_var rfl) (pvl_cons kB (pv_var rfl) pvl_nil)) cM) (pvl_cons kB (pv_callP kB pvl_nil (pvl_cons kB (pv_var rfl) (pvl_cons kB (pv_var rfl) pvl_nil)) rfl cM) pvl_nil)) dd f (by decide) (by show 2 ≤ 1000; decide)) (pv_repr (pvl_cons kB (pv_var rfl) (pvl_cons kB (pv_var rfl) pvl_nil)) dd f (by decide) (by show 2 ≤ 1000; decide)) fun S4 g4 => ss_nil ⟨b.mv (g3.trans g4), x2.trans (g3.trans g4).of_nil, ts, _, _, _, _, rfl, fun t ht => e2 t (List.mem_cons_of_mem _ ht), rfl⟩)
  · obtain ⟨s1, x1, ts, o3, o4, o5, o6, e1, e2, rfl⟩ := h
    exact ss_cons (s_ret (e_cst ⟨rfl, s1, x1⟩))
end
end Prog

set_option Elab.async false
set_option linter.all false
set_option maxRecDepth 100000
set_option maxHeartbeats 2000000
namespace Lots
/-! ### a table turned about -/
def turn (n : Nat) (rs : List Nat) : List Nat := (List.range n).map fun t => maskL (having rs (2 ^ t))
theorem turn_len (n : Nat) (rs : List Nat) : (turn n rs).length = n := by
  unfold turn
  rw [List.length_map, List.length_range]
theorem turn_at {n t : Nat} {rs : List Nat} (h : t < n) : (turn n rs).getD t 0 = maskL (having rs (2 ^ t)) := by
  unfold turn
  rw [List.getD_eq_getElem?_getD, List.getElem?_map, List.getElem?_range h]
  rfl
theorem turn_lt {n r : Nat} {rs : List Nat} (h : r ∈ turn n rs) : r < 2 ^ rs.length := by
  unfold turn at h
  obtain ⟨t, _, rfl⟩ := List.mem_map.mp h
  exact maskL_lt fun i hi => (mem_having.mp hi).1
theorem two_sub {t r : Nat} : 2 ^ t &&& r = 2 ^ t ↔ r.testBit t = true := by
  rw [sub_iff]
  constructor
  · intro h
    exact h t (by rw [Nat.testBit_two_pow]; simp)
  · intro h i hi
    rw [Nat.testBit_two_pow, decide_eq_true_eq] at hi
    subst hi
    exact h
theorem turn_bit {n t i : Nat} {rs : List Nat} (h : t < n) : ((turn n rs).getD t 0).testBit i = true ↔ i < rs.length ∧ (rs.getD i 0).testBit t = true := by
  rw [turn_at h, bit_maskL, decide_eq_true_eq, mem_having, two_sub]
/-- what a choice of places tells, by the turned table -/
theorem having_turn {n p : Nat} {rs : List Nat} (hp : p < 2 ^ rs.length) : having (turn n rs) p = lotN (meetAt n rs (lotN p)) := by
  refine up_ext (up_having _ _) (up_lotN _) fun t => ?_
  rw [mem_having, turn_len, mem_lotN, bit_meetAt]
  refine and_congr_right fun ht => ?_
  rw [sub_iff]
  constructor
  · intro h i hi
    exact ((turn_bit ht).mp (h i (mem_lotN.mp hi))).2
  · intro h i hi
    exact (turn_bit ht).mpr ⟨bit_lt_of hp hi, h i (mem_lotN.mpr hi)⟩
theorem meet_sub {n m : Nat} {rs : List Nat} (hm : m < 2 ^ n) {i : Nat} : i ∈ having rs m ↔ i < rs.length ∧ ∀ t, t ∈ lotN m → (rs.getD i 0).testBit t = true := by
  rw [mem_having]
  refine and_congr_right fun _ => ?_
  rw [sub_iff]
  exact ⟨fun h t ht => h t (mem_lotN.mp ht), fun h t ht => h t (mem_lotN.mpr ht)⟩
theorem clo_turn {n p : Nat} {rs : List Nat} (hp : p < 2 ^ rs.length) : lotN (clo rs.length (turn n rs) p) = having rs (meetAt n rs (lotN p)) := by
  refine up_ext (up_lotN _) (up_having _ _) fun i => ?_
  rw [mem_lotN, ← clo_having, bit_meetAt, having_turn hp, meet_sub meetAt_lt]
  refine and_congr_right fun hi => ⟨fun h t ht => ?_, fun h t ht => ?_⟩
  · have hn : t < n := bit_lt_of meetAt_lt (mem_lotN.mp ht)
    exact ((turn_bit hn).mp (h t ht)).2
  · have hn : t < n := bit_lt_of meetAt_lt (mem_lotN.mp ht)
    exact (turn_bit hn).mpr ⟨hi, h t ht⟩
theorem closed_turn {n p : Nat} {rs : List Nat} (hp : p < 2 ^ rs.length) : clo rs.length (turn n rs) p = p ↔ having rs (meetAt n rs (lotN p)) = lotN p := by
  rw [← clo_turn hp]
  exact ⟨fun h => by rw [h], fun h => lotN_inj h⟩
/-- the closed lots, in the order of their places -/
def turned (n : Nat) (rs : List Nat) : List Nat := ((ordAll rs.length).filter fun p => decide (clo rs.length (turn n rs) p = p)).map fun p => meetAt n rs (lotN p)
theorem turned_have {n p : Nat} {rs : List Nat} (hp : p ∈ (ordAll rs.length).filter fun p => decide (clo rs.length (turn n rs) p = p)) : having rs (meetAt n rs (lotN p)) = lotN p :=
  (closed_turn (mem_ordAll.mp (List.mem_filter.mp hp).1)).mp (of_decide_eq_true (List.mem_filter.mp hp).2)
theorem turned_order (n : Nat) (rs : List Nat) : (turned n rs).Pairwise fun a b => before (having rs a) (having rs b) = true := by
  unfold turned
  rw [List.pairwise_map]
  refine (closed_order rs.length fun p => decide (clo rs.length (turn n rs) p = p)).imp_of_mem fun {a b} ha hb h => ?_
  rw [turned_have ha, turned_have hb]
  exact h
theorem turned_perm (n : Nat) (rs : List Nat) : ((ordAll n).filter fun m => decide (clo n rs m = m)).Perm (turned n rs) := by
  refine perm_nodup (before_ne (f := lotN) (closed_order n _)) (before_ne (f := having rs) (turned_order n rs)) fun m => ?_
  unfold turned
  rw [List.mem_filter, decide_eq_true_eq, mem_ordAll, List.mem_map]
  constructor
  · rintro ⟨h1, h2⟩
    have hl : maskL (having rs m) < 2 ^ rs.length := maskL_lt fun i hi => (mem_having.mp hi).1
    refine ⟨maskL (having rs m), List.mem_filter.mpr ⟨mem_ordAll.mpr hl, decide_eq_true ((closed_turn hl).mpr ?_)⟩, meet_chosen h2⟩
    rw [meet_chosen h2, lot_chosen]
  · rintro ⟨p, hp, rfl⟩
    refine ⟨meetAt_lt, ?_⟩
    rw [← clo_having, turned_have hp]
theorem having_zero (rs : List Nat) : having rs 0 = List.range rs.length := by
  refine up_ext (up_having _ _) (up_range _) fun i => ?_
  rw [mem_having, List.mem_range]
  simp
theorem having_one {n at_ : Nat} {rs : List Nat} (hr : ∀ r, r ∈ rs → r < 2 ^ n) (h : at_ < rs.length) : having (turn n rs) (maskL [at_]) = lotN (rs.getD at_ 0) := by
  have e : maskL [at_] = 2 ^ at_ := by
    unfold maskL
    simp
  rw [e]
  refine up_ext (up_having _ _) (up_lotN _) fun t => ?_
  rw [mem_having, turn_len, two_sub, mem_lotN]
  constructor
  · rintro ⟨a, b⟩
    exact ((turn_bit a).mp b).2
  · intro b
    have hn : t < n := bit_lt_of (hr _ (getD_mem h)) b
    exact ⟨hn, (turn_bit hn).mpr ⟨h, b⟩⟩
end Lots

set_option Elab.async false
set_option linter.all false
set_option maxRecDepth 100000
set_option maxHeartbeats 4000000
namespace Prog
open PySem PySem.Spec PySem.W Ev Lots

def bTurning (hv rk cp ms sh ll : Nat) : Sxs := (.cons (.set (.nm 3) (.tup (.cons (.bi .len (.cons (.var 1) .nil)) (.cons (.bi .tuple (.cons (.comp1 (.nm 7) (.rng1 (.var 0)) .yes (.call hv (.cons (.var 1) (.cons (.op .shl (.cst (.int 1)) (.var 7)) .nil))) [7]) .nil)) .nil)))) (.cons (.set (.nm 4) (.bi .tuple (.cons (.sortK rk (.comp1 (.tp [8, 9]) (.ex (.var 2)) .yes (.tup (.cons (.var 9) (.cons (.var 8) .nil))) [8, 9])) .nil))) (.cons (.set (.nm 5) (.lst (.cons (.call cp (.cons (.var 3) .nil)) (.cons (.call ms (.cons (.var 3) .nil)) (.cons (.call sh (.cons (.var 3) (.cons (.tup .nil) .nil))) .nil))))) (.cons (.iff (.cmp .ne (.bi .repr (.cons (.var 5) .nil)) (.bi .repr (.cons (.lst (.cons (.var 4) (.cons (.bi .tuple (.cons (.comp1 (.tp [9, 8]) (.ex (.var 4)) .yes (.var 9) [9, 8]) .nil)) (.cons (.tupRng (.var 0)) .nil)))) .nil))) (.cons (.ret (.cst (.bl false))) .nil) .nil) (.cons (.for (.nm 6) (.rng1 (.bi .len (.cons (.var 1) .nil))) (.cons (.iff (.cmp .ne (.bi .repr (.cons (.call sh (.cons (.var 3) (.cons (.tup (.cons (.var 6) .nil)) .nil))) .nil)) (.bi .repr (.cons (.call ll (.cons (.idx (.var 1) (.var 6)) .nil)) .nil))) (.cons (.ret (.cst (.bl false))) .nil) .nil) .nil)) (.cons (.ret (.cst (.bl true))) .nil))))))
def IsTurning (cf : CallF) (i : Nat) : Prop := ∀ (n R : Nat) (rs : List Nat) (S : Store), Tb n rs → rs.length ≤ 10 → S[R]? = some (rs.map dN) → Ok (cf i [dN n, .ref R, .tup (pairsOf n rs)] S) fun p => p.1 = .bl true ∧ Ext [] S p.2
def ppair (rs : List Nat) (m : Nat) : PyData := .tuple [pT (lotN m), pT (having rs m)]
def closed (n : Nat) (rs : List Nat) : List Nat := (ordAll n).filter fun m => decide (clo n rs m = m)
theorem closed_len {n : Nat} (rs : List Nat) : (closed n rs).length ≤ 2 ^ n := Nat.le_trans (List.length_filter_le _ _) (ordM_len n (n + 1))
theorem closed_lt {n m : Nat} {rs : List Nat} (h : m ∈ closed n rs) : m < 2 ^ n := mem_ordAll.mp (List.mem_filter.mp h).1
theorem dat_pairs {k : Nat} {S : Store} (rs : List Nat) : ∀ l : List Nat, datL k S (l.map (pairD rs)) = some (l.map (ppair rs))
  | [] => by simp only [List.map_nil, datL]
  | m :: l => by
    simp only [List.map_cons, datL, dat, dat_nats, dat_pairs rs l]
    rfl
theorem dat_lots {k : Nat} {S : Store} : ∀ l : List Nat, datL k S (l.map fun m => dTn (lotN m)) = some (l.map fun m => pT (lotN m))
  | [] => by simp only [List.map_nil, datL]
  | m :: l => by
    simp only [List.map_cons, datL, dat, dat_nats, dat_lots l]
    rfl
theorem fit_pair {n m : Nat} {rs : List Nat} (hn : n ≤ 10) (hm : m < 2 ^ n) (hl : rs.length ≤ 64) : Fit 130 2 (ppair rs m) := by
  refine (fit_tup (b := 64) (k := 1) fun x hx => ?_).mono (Nat.le_refl _) (Nat.le_refl _)
  simp only [List.mem_cons, List.not_mem_nil, or_false] at hx
  rcases hx with rfl | rfl
  · exact lot_fit hn hm
  · exact hav_fit hl
theorem fit_pairs {n : Nat} {rs : List Nat} (hn : n ≤ 10) (hl : rs.length ≤ 64) : Fit 134144 3 (.tuple ((closed n rs).map (ppair rs))) := by
  have big : 2 ^ n ≤ 2 ^ 10 := Nat.pow_le_pow_right (by decide) hn
  have := closed_len (n := n) rs
  refine (fit_tup (b := 130) (k := 2) fun x hx => ?_).mono (by rw [List.length_map]; omega) (Nat.le_refl _)
  obtain ⟨m, hm, rfl⟩ := List.mem_map.mp hx
  exact fit_pair hn (closed_lt hm) hl
theorem fit_lots {n : Nat} {rs : List Nat} (hn : n ≤ 10) : Fit 134144 3 (.tuple ((closed n rs).map fun m => pT (lotN m))) := by
  have big : 2 ^ n ≤ 2 ^ 10 := Nat.pow_le_pow_right (by decide) hn
  have := closed_len (n := n) rs
  refine (fit_tup (b := 64) (k := 1) fun x hx => ?_).mono (by rw [List.length_map]; omega) (by decide)
  obtain ⟨m, hm, rfl⟩ := List.mem_map.mp hx
  exact lot_fit hn (closed_lt hm)
theorem dat_tup {k : Nat} {S : Store} {ds : List D} {pd : List PyData} (h : datL k S ds = some pd) : dat k S (.tup ds) = some (.tuple pd) := by
  simp only [dat, h]
  rfl
section
variable {cf : CallF} {B : Store → Prop} {r : Ev.Env}
/-- the text of a tuple -/
theorem pv_reprV {e : Ex} {ds : List D} {pd : List PyData} {b : Nat} (h : Pv cf B r e (.tup ds)) (hd : ∀ n S, datL n S ds = some pd) (f : Fit b 20 (.tuple pd)) (hb : b ≤ 2 ^ 20) : Pv cf B r (.bi .repr (.cons e .nil)) (.str (PyData.shown (.tuple pd))) := fun S s => by
  refine e_bi (l_cons ((h S s).mono fun p hp => ?_))
  obtain ⟨d, S1⟩ := p
  obtain ⟨e1, h1⟩ := hp
  dsimp only at e1 h1 ⊢
  subst e1
  exact l_nil (rep_ok (dat_tup (hd 8 S1)) rfl f hb ⟨rfl, h1⟩)
/-- tuple([.. for .. in a tuple]) -/
theorem pv_tmap {tg : Tg} {it : Ex} {e : Ex} {own : List Nat} {xs : List D} (f : D → D) (k : Keep B) (hi : Pv cf B r it (.tup xs)) (hl : xs.length ≤ 100000) (h : ∀ x, x ∈ xs → ∃ r1, bindT tg x (wipeE r own) = some r1 ∧ Pv cf B r1 e (f x)) : Pv cf B r (.bi .tuple (.cons (.comp1 tg (.ex it) .yes e own) .nil)) (.tup (xs.map f)) := fun S s => by
  have sz : sizeLine = 2 ^ 24 := rfl
  refine e_bi (l_cons (comp1_map f (i_ex ((hi S s).mono fun p hp => ?_))))
  obtain ⟨d, S1⟩ := p
  obtain ⟨e1, h1⟩ := hp
  dsimp only at e1 h1 ⊢
  subst e1
  refine it_tup ⟨fun _ _ z => (by cases z), by show xs.length ≤ _; omega, fun x hx => ?_, fun S' hS c => l_nil (bi_tuple c ⟨rfl, h1.trans hS⟩)⟩
  obtain ⟨r1, e2, k1⟩ := h x hx
  exact ⟨r1, e2, fun S2 hS => k1 S2 (k.mv _ _ (k.mv _ _ s h1) hS)⟩
theorem pv_tmapE {tg : Tg} {it : Ex} {e : Ex} {own : List Nat} {xs ys : List D} (f : D → D) (he : xs.map f = ys) (k : Keep B) (hi : Pv cf B r it (.tup xs)) (hl : xs.length ≤ 100000) (h : ∀ x, x ∈ xs → ∃ r1, bindT tg x (wipeE r own) = some r1 ∧ Pv cf B r1 e (f x)) : Pv cf B r (.bi .tuple (.cons (.comp1 tg (.ex it) .yes e own) .nil)) (.tup ys) := by
  subst he
  exact pv_tmap f k hi hl h
/-- tuple([.. for i in range(n)]) -/
theorem pv_trange {i : Nat} {it e : Ex} {own : List Nat} {n : Nat} (f : Nat → D) (k : Keep B) (hi : Pv cf B r it (dN n)) (hl : n ≤ 100000) (h : ∀ x, x < n → Pv cf B ((wipeE r own).set i (some (dN x))) e (f x)) : Pv cf B r (.bi .tuple (.cons (.comp1 (.nm i) (.rng1 it) .yes e own) .nil)) (.tup ((List.range n).map f)) := fun S s => by
  have sz : sizeLine = 2 ^ 24 := rfl
  refine e_bi (l_cons (comp1_map (fun d => match d with
    | .int x => f x.toNat
    | _ => .non) (i_rng ((hi S s).mono fun p hp => ?_))))
  obtain ⟨d, S1⟩ := p
  obtain ⟨e1, h1⟩ := hp
  dsimp only at e1 h1 ⊢
  subst e1
  refine ⟨n, rfl, by omega, fun _ _ z => (by cases z), ?_, fun x hx => ?_, fun S' hS c => l_nil (bi_tuple c ⟨?_, h1.trans hS⟩)⟩
  · show (rngD 0 n).length ≤ _
    rw [rng_nat, List.length_map, List.length_range]
    omega
  · have hx' : x ∈ rngD 0 n := hx
    rw [rng_nat] at hx'
    obtain ⟨y, hy, rfl⟩ := List.mem_map.mp hx'
    refine ⟨_, rfl, fun S2 hS => (h y (List.mem_range.mp hy) S2 (k.mv _ _ (k.mv _ _ s h1) hS)).mono fun p hp => ⟨?_, hp.2⟩⟩
    rw [hp.1]
    simp
  · show D.tup ((rngD 0 n).map _) = _
    rw [rng_nat, List.map_map]
    rfl
theorem pv_len {i : Nat} {d : D} {xs : List D} (e : r[i]? = some (some d)) (h : ∀ S, B S → seqOf S d = some xs) : Pv cf B r (.bi .len (.cons (.var i) .nil)) (dN xs.length) := fun S s => e_bi (l_cons (e_var e (l_nil (bi_len (h S s) ⟨rfl, .refl⟩))))
theorem pv_trng {a : Ex} {n : Nat} (h : Pv cf B r a (dN n)) (hn : n ≤ 100000) : Pv cf B r (.tupRng a) (dTn (List.range n)) := fun S s => by
  have sz : sizeLine = 2 ^ 24 := rfl
  refine e_trng ((h S s).mono fun p hp => ?_)
  exact ⟨n, hp.1, by omega, by rw [rng_nat], hp.2⟩
end
section
variable {cf : CallF} {S : Store}
theorem turning_ok {hv rk cp ms sh ll : Nat} (hH : IsHaving cf hv) (hK : IsRank cf rk) (hP : IsPairs cf cp) (hM : IsMeets cf ms) (hS : IsShared cf sh) (hL : IsLawLot cf ll) {n R : Nat} {rs : List Nat} (T : Tb n rs) (hl : rs.length ≤ 10) (hR : S[R]? = some (rs.map dN)) :
    Ok (runDf cf ⟨10, 3, bTurning hv rk cp ms sh ll⟩ [dN n, .ref R, .tup (pairsOf n rs)] S) fun p => p.1 = .bl true ∧ Ext [] S p.2 := by
  have sz : sizeLine = 2 ^ 24 := rfl
  have big : 2 ^ n ≤ 2 ^ 10 := Nat.pow_le_pow_right (by decide) T.n10
  have bigL : 2 ^ rs.length ≤ 2 ^ 10 := Nat.pow_le_pow_right (by decide) hl
  have TT := T.tab
  have tl := turn_len n rs
  have T2 : Tb rs.length (turn n rs) := ⟨hl, fun r hr => turn_lt hr, by rw [tl]; have := T.n10; omega⟩
  have TT2 := T2.tab
  have kB : Keep fun S : Store => S[R]? = some (rs.map dN) := keep_at
  have tabE : tabD rs.length (turn n rs) = .tup [dN rs.length, .tup ((List.range n).map fun t => dTn (having rs (2 ^ t)))] := by
    unfold tabD turn
    rw [List.map_map]
    congr 3
    refine congrArg D.tup (List.map_congr_left fun t _ => ?_)
    show dTn (lotN (maskL (having rs (2 ^ t)))) = _
    rw [lot_chosen]
  -- the turned table
  refine run_ok rfl (ss_cons (s_set ((pv_tup (pvl_cons kB (pv_len (d := .ref R) (xs := rs.map dN) rfl fun S b => b) (pvl_cons kB (pv_trange (fun t => dTn (having rs (2 ^ t))) kB (pv_var rfl) (by have := T.n10; omega) fun t ht => pv_call kB (pvl_cons kB (pv_var rfl) (pvl_cons kB (pv_op kB pv_cst (pv_var rfl) fun S => o_shl1 (by have := T.n10; omega) rfl) pvl_nil)) fun S b => hH R (2 ^ t) rs S TT.len b) pvl_nil)) (by show 2 ≤ 1000; decide) S hR).mono fun p hp => ?_)))
  obtain ⟨d, S1⟩ := p
  obtain ⟨e, g1⟩ := hp
  dsimp only at e g1 ⊢
  subst e
  have e1 : D.tup [dN (rs.map dN).length, D.tup ((List.range n).map fun t => dTn (having rs (2 ^ t)))] = tabD rs.length (turn n rs) := by rw [tabE, List.length_map]
  show Ok (evSs cf _ [some (dN n), some (.ref R), some (.tup (pairsOf n rs)), some (D.tup [dN (rs.map dN).length, D.tup ((List.range n).map fun t => dTn (having rs (2 ^ t)))]), none, none, none, none, none, none] S1) _
  rw [e1]
  have b1 := g1.at hR List.not_mem_nil
  -- the pairs turned about, sorted
  refine ss_cons (s_set (e_bi (l_cons (e_sort (comp1_map (fun d => match d with
    | .tup [a, b] => .tup [b, a]
    | _ => .non) (i_ex (e_var rfl (it_tup ?_))))))))
  refine ⟨fun _ _ z => (by cases z), ?_, fun x hx => ?_, fun S2 g2 c2 => ?_⟩
  · show (pairsOf n rs).length ≤ _
    unfold pairsOf
    rw [List.length_map]
    have := closed_len (n := n) rs
    unfold closed at this
    omega
  · have hx' : x ∈ (closed n rs).map (pairD rs) := hx
    obtain ⟨m, _, rfl⟩ := List.mem_map.mp hx'
    exact ⟨_, rfl, fun S2 _ => e_tup (l_cons (e_var rfl (l_cons (e_var rfl (l_nil ⟨(by show 2 ≤ 2 ^ 24; decide), rfl, .refl⟩)))))⟩
  have c3 : S2[S1.length]? = some ((closed n rs).map fun m => .tup [dTn (having rs m), dTn (lotN m)]) := by
    rw [c2]
    show some (((closed n rs).map (pairD rs)).map _) = _
    rw [List.map_map]
    rfl
  refine (sort_ok hK (having rs) (fun m => dTn (lotN m)) c3 (turned_perm n rs) (turned_order n rs)).mono fun p hp => ?_
  subst hp
  refine l_nil (bi_tuple at_push ?_)
  have pe : ((turned n rs).map fun m => D.tup [dTn (having rs m), dTn (lotN m)]) = pairsOf rs.length (turn n rs) := by
    unfold turned pairsOf
    rw [List.map_map]
    refine List.map_congr_left fun p hp => ?_
    have h1 := turned_have hp
    have h2 := mem_ordAll.mp (List.mem_filter.mp hp).1
    show D.tup [dTn (having rs (meetAt n rs (lotN p))), dTn (lotN (meetAt n rs (lotN p)))] = pairD (turn n rs) p
    unfold pairD
    rw [h1, having_turn h2]
  show Ok (evSs cf _ [some (dN n), some (.ref R), some (.tup (pairsOf n rs)), some (tabD rs.length (turn n rs)), some (.tup ((turned n rs).map fun m => D.tup [dTn (having rs m), dTn (lotN m)])), none, none, none, none, none] _) _
  rw [pe]
  have keep : Ext [] S (S2 ++ [pairsOf rs.length (turn n rs)]) := (g1.trans g2).trans .push
  show Ok (evSs cf _ _ (S2 ++ [pairsOf rs.length (turn n rs)])) _
  generalize hU : S2 ++ [pairsOf rs.length (turn n rs)] = U at keep
  have gU : Ext [] S U := keep
  have bU := gU.at hR List.not_mem_nil
  -- what is told
  have cP : Pc cf (fun S => S[R]? = some (rs.map dN)) cp [tabD rs.length (turn n rs)] (.tup (pairsOf rs.length (turn n rs))) := fun S _ => hP rs.length (turn n rs) S TT2
  have cM : Pc cf (fun S => S[R]? = some (rs.map dN)) ms [tabD rs.length (turn n rs)] (.tup (lotsOf rs.length (clo rs.length (turn n rs)))) := fun S _ => hM rs.length (turn n rs) S TT2
  have cS : ∀ xs : List Nat, (∀ x, x ∈ xs → x ≤ 1000000) → Pc cf (fun S => S[R]? = some (rs.map dN)) sh [tabD rs.length (turn n rs), dTn xs] (dTn (having (turn n rs) (maskL xs))) := fun xs hx S _ => hS rs.length (turn n rs) xs S TT2 hx
  have hz : having (turn n rs) (maskL []) = List.range n := by
    show having (turn n rs) 0 = _
    rw [having_zero, tl]
  refine ss_cons (s_set (e_lst (((pvl_cons kB (pv_call kB (pvl_cons kB (pv_var rfl) pvl_nil) cP) (pvl_cons kB (pv_call kB (pvl_cons kB (pv_var rfl) pvl_nil) cM) (pvl_cons kB (pv_call kB (pvl_cons kB (pv_var rfl) (pvl_cons kB (pv_tup pvl_nil (Nat.zero_le _)) pvl_nil)) (cS [] fun x hx => absurd hx List.not_mem_nil)) pvl_nil))) U bU).mono fun p hp => ?_)))
  obtain ⟨ds, S3⟩ := p
  obtain ⟨e, g3⟩ := hp
  dsimp only at e g3 ⊢
  subst e
  refine ⟨(by show 3 ≤ 2 ^ 24; decide), ?_⟩
  have lotE : (closed rs.length (turn n rs)).map (fun m => dTn (lotN m)) = lotsOf rs.length (clo rs.length (turn n rs)) := rfl
  have pairE : (closed rs.length (turn n rs)).map (pairD (turn n rs)) = pairsOf rs.length (turn n rs) := rfl
  have mapE : ((pairsOf rs.length (turn n rs)).map fun d => match d with
      | .tup [a, _] => a
      | _ => .non) = lotsOf rs.length (clo rs.length (turn n rs)) := by
    rw [← pairE, List.map_map]
    rfl
  have dd : ∀ (k : Nat) (S : Store), datL k S [.tup (pairsOf rs.length (turn n rs)), .tup (lotsOf rs.length (clo rs.length (turn n rs))), dTn (List.range n)] = some [.tuple ((closed rs.length (turn n rs)).map (ppair (turn n rs))), .tuple ((closed rs.length (turn n rs)).map fun m => pT (lotN m)), pT (List.range n)] := fun k S => by
    rw [← lotE, ← pairE]
    simp only [datL, dat, dat_nats, dat_pairs, dat_lots]
    rfl
  have ff : Fit (134145 * 3) 20 (.list [.tuple ((closed rs.length (turn n rs)).map (ppair (turn n rs))), .tuple ((closed rs.length (turn n rs)).map fun m => pT (lotN m)), pT (List.range n)]) := by
    refine (fit_lst (b := 134144) (k := 3) fun x hx => ?_).mono (Nat.le_refl _) (by decide)
    simp only [List.mem_cons, List.not_mem_nil, or_false] at hx
    rcases hx with rfl | rfl | rfl
    · exact fit_pairs hl T2.len
    · exact fit_lots hl
    · exact (fit_T (fun x hx => by have := List.mem_range.mp hx; have := T.n10; omega) (by rw [List.length_range]; have := T.n10; omega)).mono (by decide) (by decide)
  have kC : Keep fun S : Store => S[R]? = some (rs.map dN) ∧ S[S3.length]? = some [.tup (pairsOf rs.length (turn n rs)), .tup (lotsOf rs.length (clo rs.length (turn n rs))), dTn (List.range n)] := keep_and kB keep_at
  rw [hz]
  have bV : (S3 ++ [[D.tup (pairsOf rs.length (turn n rs)), D.tup (lotsOf rs.length (clo rs.length (turn n rs))), dTn (List.range n)]])[R]? = some (rs.map dN) := (g3.trans .push).at bU List.not_mem_nil
  have plen : (pairsOf rs.length (turn n rs)).length ≤ 100000 := by
    rw [← pairE, List.length_map]
    have := closed_len (n := rs.length) (turn n rs)
    omega
  have second : ∀ x, x ∈ pairsOf rs.length (turn n rs) → ∃ a b, x = .tup [a, b] := fun x hx => by
    rw [← pairE] at hx
    obtain ⟨m, _, rfl⟩ := List.mem_map.mp hx
    exact ⟨_, _, rfl⟩
  refine ss_cons (s_check kC ⟨bV, at_push⟩ (pv_reprR rfl (fun S b => b.2) dd ff (by decide)) (pv_repr (pvl_cons kC (pv_var rfl) (pvl_cons kC (by
    refine pv_tmapE _ mapE kC (pv_var rfl) plen fun x hx => ?_
    obtain ⟨a, b, rfl⟩ := second x hx
    exact ⟨_, rfl, pv_var rfl⟩) (pvl_cons kC (pv_trng (pv_var rfl) (by have := T.n10; omega)) pvl_nil))) dd ff (by decide) (by show 3 ≤ 1000; decide)) fun S4 g4 => ?_)
  have g5 := (gU.trans (g3.trans (Ext.push (x := [D.tup (pairsOf rs.length (turn n rs)), D.tup (lotsOf rs.length (clo rs.length (turn n rs))), dTn (List.range n)])))).trans g4
  have b5 := g5.at hR List.not_mem_nil
  -- each place
  refine ss_cons (s_for (i_rng (e_bi (l_cons (e_var rfl (l_nil (bi_len (e_of b5) ⟨rs.length, by rw [List.length_map], by omega, ?_⟩)))))))
  refine for_ok (g := none) (fun rem e S' => Ext [] S S' ∧ ∃ (ts : List Nat) (o5 o6 : Option D), rem = ts.map dN ∧ (∀ t, t ∈ ts → t < rs.length) ∧ e = [some (dN n), some (.ref R), some (.tup (pairsOf n rs)), some (tabD rs.length (turn n rs)), some (.tup (pairsOf rs.length (turn n rs))), o5, o6, none, none, none]) (fun _ _ _ _ => trivial) (fun x rem e S' h => ?_) (fun e S' h => ?_) ⟨g5, List.range rs.length, _, none, rng_nat _, fun t ht => List.mem_range.mp ht, rfl⟩
  · obtain ⟨x1, ts, o5, o6, e1, e2, rfl⟩ := h
    cases ts with
    | nil => cases e1
    | cons t ts =>
      cases e1
      have ht := e2 t List.mem_cons_self
      have b6 := x1.at hR List.not_mem_nil
      have hrt : rs.getD t 0 < 2 ^ n := T.lt _ (getD_mem ht)
      have eq1 := having_one (n := n) T.lt ht
      have cS1 : Pc cf (fun S => S[R]? = some (rs.map dN)) sh [tabD rs.length (turn n rs), dTn [t]] (dTn (lotN (rs.getD t 0))) := fun S b => by
        have z := cS [t] (fun x hx => by rw [List.mem_singleton.mp hx]; omega) S b
        rw [eq1] at z
        exact z
      have cL : Pc cf (fun S => S[R]? = some (rs.map dN)) ll [dN (rs.getD t 0)] (dTn (lotN (rs.getD t 0))) := fun S _ => hL _ S (by omega)
      have f1 : Fit 64 20 (.tuple ((lotN (rs.getD t 0)).map pN)) := (lot_fit T.n10 hrt).mono (Nat.le_refl _) (by decide)
      refine ⟨_, rfl, ss_cons (s_check kB b6 (pv_reprV (pv_call kB (pvl_cons kB (pv_var rfl) (pvl_cons kB (pv_tup (ds := [dN t]) (pvl_cons kB (pv_var rfl) pvl_nil) (by show 1 ≤ 1000; decide)) pvl_nil)) cS1) (fun n' S => dat_nats n' S _) f1 (by decide)) (pv_reprV (pv_call kB (pvl_cons kB (pv_idx (n := t) (d := dN (rs.getD t 0)) kB (pv_var rfl) (pv_var rfl) (fun S b => b) ?_) pvl_nil) cL) (fun n' S => dat_nats n' S _) f1 (by decide)) fun S5 g6 => ss_nil ⟨x1.trans g6, ts, _, _, rfl, fun t ht => e2 t (List.mem_cons_of_mem _ ht), rfl⟩)⟩
      rw [List.getElem?_map, List.getElem?_eq_getElem ht, List.getD_eq_getElem?_getD, List.getElem?_eq_getElem ht]
      rfl
  · obtain ⟨x1, ts, o5, o6, e1, e2, rfl⟩ := h
    exact ss_cons (s_ret (e_cst ⟨rfl, x1⟩))
end
end Prog

set_option Elab.async false
set_option linter.all false
set_option maxRecDepth 100000
set_option maxHeartbeats 4000000
namespace Prog
open PySem PySem.Spec PySem.W Ev Lots

def bRight (st cp sh mt dr so ak ch tu ms : Nat) : Sxs := (.cons (.set (.nm 4) (.call st (.cons (.var 1) (.cons (.var 2) .nil)))) (.cons (.iff (.cmp .ne (.bi .repr (.cons (.lst (.cons (.call cp (.cons (.var 4) .nil)) (.cons (.callP cp .nil (.cons (.var 4) .nil) [0]) .nil))) .nil)) (.bi .repr (.cons (.lst (.cons (.var 3) (.cons (.var 3) .nil))) .nil))) (.cons (.ret (.cst (.bl false))) .nil) .nil) (.cons (.for (.tp [6, 7]) (.ex (.var 3)) (.cons (.iff (.cmp .ne (.bi .repr (.cons (.lst (.cons (.call sh (.cons (.var 4) (.cons (.var 6) .nil))) (.cons (.call mt (.cons (.var 4) (.cons (.var 7) .nil))) .nil))) .nil)) (.bi .repr (.cons (.lst (.cons (.var 7) (.cons (.var 6) .nil))) .nil))) (.cons (.ret (.cst (.bl false))) .nil) .nil) .nil)) (.cons (.set (.nm 5) (.listRng (.op .shl (.cst (.int 1)) (.var 1)))) (.cons (.iff (.cmp .gt (.var 1) (.cst (.int 5))) (.cons (.set (.nm 5) (.op .add (.lst (.cons (.cst (.int 0)) (.cons (.op .sub (.op .shl (.cst (.int 1)) (.var 1)) (.cst (.int 1))) .nil))) (.comp1 (.nm 8) (.rng1 (.cst (.int 6))) .yes (.call dr (.cons (.var 0) (.cons (.op .shl (.cst (.int 1)) (.var 1)) .nil))) [8]))) (.cons (.set (.nm 5) (.op .add (.var 5) (.comp1 (.nm 8) (.rng1 (.cst (.int 6))) .yes (.call so (.cons (.var 0) (.cons (.var 1) (.cons (.cst (.int 3)) .nil)))) [8]))) .nil)) .nil) (.cons (.iff (.or (.not (.val (.call ak (.cons (.var 4) (.cons (.var 2) (.cons (.var 5) .nil)))))) (.not (.val (.call ch (.cons (.var 0) (.cons (.var 4) (.cons (.var 2) .nil))))))) (.cons (.ret (.cst (.bl false))) .nil) .nil) (.cons (.iff (.and (.cmp .lt (.bi .len (.cons (.var 2) .nil)) (.cst (.int 11))) (.not (.val (.call tu (.cons (.var 1) (.cons (.var 2) (.cons (.var 3) .nil))))))) (.cons (.ret (.cst (.bl false))) .nil) .nil) (.cons (.ret (.cmp .eq (.bi .repr (.cons (.lst (.cons (.callP ms .nil (.cons (.var 4) .nil) [0]) (.cons (.call cp (.cons (.var 4) .nil)) .nil))) .nil)) (.bi .repr (.cons (.lst (.cons (.bi .tuple (.cons (.comp1 (.tp [6, 7]) (.ex (.var 3)) .yes (.var 6) [6, 7]) .nil)) (.cons (.var 3) .nil))) .nil)))) .nil))))))))
def IsRight (cf : CallF) (i : Nat) : Prop := ∀ (r g kn n R : Nat) (rs : List Nat) (S : Store), Spr r g kn S → R ≠ r → R ≠ g → Tb n rs → S[R]? = some (rs.map dN) → Ok (cf i [.ref r, dN n, .ref R, .tup (pairsOf n rs)] S) fun p => p.1 = .bl true ∧ Spr r g kn p.2 ∧ Ext [r, g] S p.2
theorem outs_below {w : Nat} {rel : D → Option D → Prop} (h : ∀ x o, rel x o → ∃ v, v < w ∧ o = some (dN v)) : ∀ {xs ys : List D}, Outs rel xs ys → ∃ vs : List Nat, ys = vs.map dN ∧ (∀ v, v ∈ vs → v < w) ∧ vs.length = xs.length
  | [], _, .nil => ⟨[], rfl, fun _ z => absurd z List.not_mem_nil, rfl⟩
  | x :: xs, _, .skip r t => by
    obtain ⟨v, _, e⟩ := h _ _ r
    cases e
  | x :: xs, _, .take r t => by
    obtain ⟨vs, e, k, kl⟩ := outs_below h t
    obtain ⟨v, hv, e2⟩ := h _ _ r
    cases e2
    refine ⟨v :: vs, by rw [e]; rfl, fun u hu => ?_, by rw [List.length_cons, List.length_cons, kl]⟩
    rcases List.mem_cons.mp hu with rfl | hu
    · exact hv
    · exact k u hu
theorem t_bl {b : Bool} {S : Store} {Q : Bool → Prop} (h : Q b) : Ok (truR (.bl b) S) Q := .of rfl h
section
variable {cf : CallF} {S : Store}
/-- so many drawn numbers -/
theorem draws_ok {e : Ex} {i m : Nat} {own : List Nat} {r : Ev.Env} {rr g kn w : Nat} {Q : D × Store → Prop} (hm : m ≤ 1000) (s0 : Spr rr g kn S) (h : ∀ x, x < m → ∀ S', Spr rr g kn S' → Ext [rr, g] S S' → Ok (evE cf e ((wipeE r own).set i (some (dN x))) S') fun p => ∃ v, v < w ∧ p.1 = dN v ∧ Spr rr g kn p.2 ∧ Ext [rr, g] S' p.2)
    (fin : ∀ (S' : Store) (vs : List Nat), Ext [rr, g] S S' → Spr rr g kn S' → (∀ v, v ∈ vs → v < w) → vs.length = m → S'[S.length]? = some (vs.map dN) → Q (.ref S.length, S')) : Ok (evE cf (.comp1 (.nm i) (.rng1 (.cst (.int (m : Int)))) .yes e own) r S) Q := by
  have sz : sizeLine = 2 ^ 24 := rfl
  obtain ⟨lr, lg, lk⟩ := s0.lt
  refine comp1_ok [rr, g] (Spr rr g kn) (fun x o => ∃ v, v < w ∧ o = some (dN v)) (i_rng (e_cst ⟨m, rfl, by omega, ?_⟩))
  refine ⟨fun n hn => ?_, fun n xs z => (by cases z), ?_, s0, fun S1 S2 a b c => c.on (b := S.length) a lr lg lk, fun x hx => ?_, fun S2 ys a b c d => ?_⟩
  · simp only [List.mem_cons, List.not_mem_nil, or_false] at hn
    show n < S.length
    rcases hn with rfl | rfl
    · exact lr
    · exact lg
  · show (rngD 0 m).length ≤ _
    rw [rng_nat, List.length_map, List.length_range]
    omega
  · have hx' : x ∈ rngD 0 m := hx
    rw [rng_nat] at hx'
    obtain ⟨y, hy, rfl⟩ := List.mem_map.mp hx'
    refine ⟨_, rfl, fun S2 hS hP => b_yes ?_⟩
    rw [if_pos rfl]
    refine (h y (List.mem_range.mp hy) S2 hP hS).mono fun p hp => ?_
    obtain ⟨v, hv, e1, q1, q2⟩ := hp
    exact ⟨q2, q1, v, hv, by rw [e1]⟩
  · obtain ⟨vs, e1, k, kl⟩ := outs_below (fun x o h => h) d
    have c' : S2[S.length]? = some ys := c
    rw [e1] at c'
    have kl' : vs.length = (rngD 0 m).length := kl
    rw [rng_nat, List.length_map, List.length_range] at kl'
    exact fin S2 vs a b k kl' c'
theorem right_ok {st cp sh mt dr so ak ch tu ms : Nat} (h1 : IsSheet cf st) (h2 : IsPairs cf cp) (h3 : IsShared cf sh) (h4 : IsMeetOf cf mt) (h5 : IsDraw cf dr) (h6 : IsSome cf so) (h7 : IsAsking cf ak) (h8 : IsChoice cf ch) (h9 : IsTurning cf tu) (h10 : IsMeets cf ms) {r g kn n R : Nat} {rs : List Nat} (s0 : Spr r g kn S) (n1 : R ≠ r) (n2 : R ≠ g) (T : Tb n rs) (hR : S[R]? = some (rs.map dN)) :
    Ok (runDf cf ⟨9, 4, bRight st cp sh mt dr so ak ch tu ms⟩ [.ref r, dN n, .ref R, .tup (pairsOf n rs)] S) fun p => p.1 = .bl true ∧ Spr r g kn p.2 ∧ Ext [r, g] S p.2 := by
  have sz : sizeLine = 2 ^ 24 := rfl
  have big : 2 ^ n ≤ 2 ^ 10 := Nat.pow_le_pow_right (by decide) T.n10
  have w0 : 0 < 2 ^ n := Nat.two_pow_pos n
  have TT := T.tab
  have hW : R ∉ [r, g] := by simp [n1, n2]
  have kB : Keep fun S : Store => S[R]? = some (rs.map dN) := keep_at
  refine run_ok rfl (ss_cons (s_set (e_call (l_cons (e_var rfl (l_cons (e_var rfl (l_nil ((h1 n R rs S (fun x hx => Nat.lt_of_lt_of_le (T.lt x hx) big) TT.len hR).mono fun p hp => ?_)))))))))
  obtain ⟨d, S1⟩ := p
  obtain ⟨e, g1⟩ := hp
  dsimp only at e g1 ⊢
  subst e
  have b1 := g1.at hR List.not_mem_nil
  have cP : Pc cf (fun S => S[R]? = some (rs.map dN)) cp [tabD n rs] (.tup (pairsOf n rs)) := fun S _ => h2 n rs S TT
  have cM : Pc cf (fun S => S[R]? = some (rs.map dN)) ms [tabD n rs] (.tup (lotsOf n (clo n rs))) := fun S _ => h10 n rs S TT
  have lotE : (closed n rs).map (fun m => dTn (lotN m)) = lotsOf n (clo n rs) := rfl
  have pairE : (closed n rs).map (pairD rs) = pairsOf n rs := rfl
  have dd : ∀ (k : Nat) (S : Store), datL k S [.tup (pairsOf n rs), .tup (pairsOf n rs)] = some [.tuple ((closed n rs).map (ppair rs)), .tuple ((closed n rs).map (ppair rs))] := fun k S => by
    rw [← pairE]
    simp only [datL, dat, dat_pairs]
    rfl
  have ff : Fit (134145 * 2) 20 (.list [.tuple ((closed n rs).map (ppair rs)), .tuple ((closed n rs).map (ppair rs))]) := by
    refine (fit_lst (b := 134144) (k := 3) fun x hx => ?_).mono (Nat.le_refl _) (by decide)
    simp only [List.mem_cons, List.not_mem_nil, or_false] at hx
    rcases hx with rfl | rfl <;> exact fit_pairs T.n10 T.len
  refine ss_cons (s_check kB b1 (pv_repr (pvl_cons kB (pv_call kB (pvl_cons kB (pv_var rfl) pvl_nil) cP) (pvl_cons kB (pv_callP kB pvl_nil (pvl_cons kB (pv_var rfl) pvl_nil) rfl cP) pvl_nil)) dd ff (by decide) (by show 2 ≤ 1000; decide)) (pv_repr (pvl_cons kB (pv_var rfl) (pvl_cons kB (pv_var rfl) pvl_nil)) dd ff (by decide) (by show 2 ≤ 1000; decide)) fun S2 g2 => ?_)
  have x2 : Ext [] S S2 := g1.trans g2
  have s2 := s0.mv x2
  -- each pair
  refine ss_cons (s_for (i_ex (e_var rfl (it_tup ?_))))
  refine for_ok (g := none) (fun rem e S' => Ext [] S S' ∧ ∃ (ts : List Nat) (o6 o7 : Option D), rem = ts.map (pairD rs) ∧ (∀ t, t ∈ ts → t ∈ closed n rs) ∧ e = [some (.ref r), some (dN n), some (.ref R), some (.tup (pairsOf n rs)), some (tabD n rs), none, o6, o7, none]) (fun _ _ _ _ => trivial) (fun x rem e S' h => ?_) (fun e S' h => ?_) ⟨x2, closed n rs, none, none, rfl, fun _ z => z, rfl⟩
  · obtain ⟨x1, ts, o6, o7, e1, e2, rfl⟩ := h
    cases ts with
    | nil => cases e1
    | cons m ts =>
      cases e1
      have hm := e2 m List.mem_cons_self
      have hm2 := closed_lt hm
      have hc : clo n rs m = m := of_decide_eq_true (List.mem_filter.mp hm).2
      have cS : Pc cf (fun S => S[R]? = some (rs.map dN)) sh [tabD n rs, dTn (lotN m)] (dTn (having rs m)) := fun S _ => (h3 n rs (lotN m) S TT fun x => lot_small T.n10 hm2).mono fun p hp => by
        rw [maskL_lotN] at hp
        exact hp
      have cMt : Pc cf (fun S => S[R]? = some (rs.map dN)) mt [tabD n rs, dTn (having rs m)] (dTn (lotN m)) := fun S _ => (h4 n rs (having rs m) S TT (fun p => having_lt) (Nat.le_trans (having_len _ _) TT.len)).mono fun p hp => by
        rw [clo_having, hc] at hp
        exact hp
      have dd2 : ∀ (k : Nat) (S : Store), datL k S [dTn (having rs m), dTn (lotN m)] = some [pT (having rs m), pT (lotN m)] := fun k S => by
        simp only [datL, dat, dat_nats]
        rfl
      have ff2 : Fit (65 * 2) 20 (.list [pT (having rs m), pT (lotN m)]) := by
        refine (fit_lst (b := 64) (k := 1) fun x hx => ?_).mono (Nat.le_refl _) (by decide)
        simp only [List.mem_cons, List.not_mem_nil, or_false] at hx
        rcases hx with rfl | rfl
        · exact hav_fit T.len
        · exact lot_fit T.n10 hm2
      exact ⟨_, rfl, ss_cons (s_check kB (x1.at hR List.not_mem_nil) (pv_repr (pvl_cons kB (pv_call kB (pvl_cons kB (pv_var rfl) (pvl_cons kB (pv_var rfl) pvl_nil)) cS) (pvl_cons kB (pv_call kB (pvl_cons kB (pv_var rfl) (pvl_cons kB (pv_var rfl) pvl_nil)) cMt) pvl_nil)) dd2 ff2 (by decide) (by show 2 ≤ 1000; decide)) (pv_repr (pvl_cons kB (pv_var rfl) (pvl_cons kB (pv_var rfl) pvl_nil)) dd2 ff2 (by decide) (by show 2 ≤ 1000; decide)) fun S5 g6 => ss_nil ⟨x1.trans g6, ts, _, _, rfl, fun t ht => e2 t (List.mem_cons_of_mem _ ht), rfl⟩)⟩
  · obtain ⟨x3, ts, o6, o7, e1, e2, rfl⟩ := h
    -- the lots that are asked for
    refine ss_cons (s_set (e_rng (e_op (e_cst (e_var rfl (o_shl1 (by have := T.n10; omega) ⟨2 ^ n, rfl, by omega, ?_⟩))))))
    rw [rng_nat]
    have y1 : Ext [r, g] S (S' ++ [(List.range (2 ^ n)).map dN]) := (x3.trans .push).of_nil
    have sp1 : Spr r g kn (S' ++ [(List.range (2 ^ n)).map dN]) := s0.mv (x3.trans .push)
    have c1 : (S' ++ [(List.range (2 ^ n)).map dN])[S'.length]? = some ((List.range (2 ^ n)).map dN) := at_push
    show Ok (evSs cf _ [some (.ref r), some (dN n), some (.ref R), some (.tup (pairsOf n rs)), some (tabD n rs), some (.ref S'.length), o6, o7, none] (S' ++ [(List.range (2 ^ n)).map dN])) _
    generalize S' ++ [(List.range (2 ^ n)).map dN] = U at y1 sp1 c1
    refine ss_step (fun e V => ∃ (A : Nat) (as : List Nat), e = [some (.ref r), some (dN n), some (.ref R), some (.tup (pairsOf n rs)), some (tabD n rs), some (.ref A), o6, o7, none] ∧ (∀ a, a ∈ as → a < 2 ^ n) ∧ V[A]? = some (as.map dN) ∧ Spr r g kn V ∧ Ext [r, g] S V) ?_ fun e V h => ?_
    · refine s_if2 (b_cmp (e_var rfl (e_cst (c_gt (b := 5) ⟨fun _ => ?_, fun _ => ss_nil ⟨_, _, rfl, S'.length, List.range (2 ^ n), rfl, fun a ha => List.mem_range.mp ha, c1, sp1, y1⟩⟩))))
      refine ss_cons (s_set (e_op (e_lst (l_cons (e_cst (l_cons (e_op (e_op (e_cst (e_var rfl (o_shl1 (by have := T.n10; omega) (e_cst (o_sub (b := 1) w0 (l_nil ⟨(by show 2 ≤ 2 ^ 24; decide), ?_⟩))))))))))))))
      have sp2 := sp1.mv (Ext.push (W := []) (x := [dN 0, dN (2 ^ n - 1)]))
      have y2 := y1.trans (Ext.push (W := [r, g]) (x := [dN 0, dN (2 ^ n - 1)]))
      have c2 : (U ++ [[dN 0, dN (2 ^ n - 1)]])[U.length]? = some ([0, 2 ^ n - 1].map dN) := at_push
      show Ok (evE cf _ _ (U ++ [[dN 0, dN (2 ^ n - 1)]])) _
      have lU := lt_at c2
      obtain ⟨lr, lg, lk⟩ := sp1.lt
      generalize U ++ [[dN 0, dN (2 ^ n - 1)]] = U2 at sp2 y2 c2 lU
      refine draws_ok (m := 6) (rr := r) (g := g) (kn := kn) (w := 2 ^ n) (by decide) sp2 (fun x hx S3 q1 q2 => e_call (l_cons (e_var rfl (l_cons (e_op (e_cst (e_var rfl (o_shl1 (by have := T.n10; omega) (l_nil (h5 r g kn (2 ^ n) S3 q1 w0 (by omega))))))))))) fun S3 vs a b c cl d => ?_
      have c3 := a.at c2 (by simp; omega)
      refine o_addL c3 d (by rw [List.length_map, List.length_map]; show 2 + vs.length ≤ _; omega) ?_
      have sp4 := b.mv (Ext.push (W := []) (x := ([0, 2 ^ n - 1].map dN) ++ vs.map dN))
      have y4 := (y2.trans a).trans (Ext.push (W := [r, g]) (x := ([0, 2 ^ n - 1].map dN) ++ vs.map dN))
      have c4 : (S3 ++ [([0, 2 ^ n - 1].map dN) ++ vs.map dN])[S3.length]? = some (([0, 2 ^ n - 1] ++ vs).map dN) := by rw [at_push, List.map_append]
      obtain ⟨lr4, lg4, lk4⟩ := b.lt
      show Ok (evSs cf _ [some (.ref r), some (dN n), some (.ref R), some (.tup (pairsOf n rs)), some (tabD n rs), some (.ref S3.length), o6, o7, none] (S3 ++ [([0, 2 ^ n - 1].map dN) ++ vs.map dN])) _
      generalize S3 ++ [([0, 2 ^ n - 1].map dN) ++ vs.map dN] = U3 at sp4 y4 c4
      refine ss_cons (s_set (e_op (e_var rfl (draws_ok (m := 6) (rr := r) (g := g) (kn := kn) (w := 2 ^ n) (by decide) sp4 (fun x hx S4 q1 q2 => e_call (l_cons (e_var rfl (l_cons (e_var rfl (l_cons (e_cst (l_nil (h6 r g kn n 3 S4 q1 (by have := T.n10; omega) (by decide)))))))))) fun S4 us a2 b2 cc cl2 d2 => ?_))))
      have c5 := a2.at c4 (by simp; omega)
      refine o_addL c5 d2 (by rw [List.length_map, List.length_map, List.length_append]; show 2 + vs.length + us.length ≤ _; omega) (ss_nil ⟨_, _, rfl, S4.length, [0, 2 ^ n - 1] ++ vs ++ us, rfl, fun v hv => ?_, ?_, b2.mv .push, (y4.trans a2).trans .push⟩)
      · rcases List.mem_append.mp hv with hv | hv
        · rcases List.mem_append.mp hv with hv | hv
          · simp only [List.mem_cons, List.not_mem_nil, or_false] at hv
            rcases hv with rfl | rfl
            · exact w0
            · omega
          · exact c v hv
        · exact cc v hv
      · show (S4 ++ [([0, 2 ^ n - 1] ++ vs).map dN ++ us.map dN])[S4.length]? = _
        rw [at_push, ← List.map_append]
    obtain ⟨A, as, rfl, ha, hA, sp5, y5⟩ := h
    have b5 := y5.at hR hW
    -- asking, choosing
    refine ss_cons (s_if2 (b_or (b_not (b_val (e_call (l_cons (e_var rfl (l_cons (e_var rfl (l_cons (e_var rfl (l_nil ((h7 n R A rs as V T ha b5 hA).mono fun p hp => ?_)))))))))))))
    obtain ⟨d, V2⟩ := p
    obtain ⟨e, g7⟩ := hp
    dsimp only at e g7 ⊢
    subst e
    refine t_bl ?_
    rw [if_neg (by decide)]
    have sp6 := sp5.mv g7
    have b6 := g7.at b5 List.not_mem_nil
    refine b_not (b_val (e_call (l_cons (e_var rfl (l_cons (e_var rfl (l_cons (e_var rfl (l_nil ((h8 r g kn n R rs V2 sp6 n1 n2 T b6).mono fun p hp => ?_))))))))))
    obtain ⟨d, V3⟩ := p
    obtain ⟨e, sp7, g8⟩ := hp
    dsimp only at e sp7 g8 ⊢
    subst e
    refine t_bl ⟨fun z => absurd z (by decide), fun _ => ss_nil ?_⟩
    have b7 := g8.at b6 hW
    have y7 : Ext [r, g] S V3 := (y5.trans g7.of_nil).trans g8
    -- turning
    refine ss_step (fun e V4 => e = [some (.ref r), some (dN n), some (.ref R), some (.tup (pairsOf n rs)), some (tabD n rs), some (.ref A), o6, o7, none] ∧ Spr r g kn V4 ∧ Ext [r, g] S V4) ?_ fun e V4 h => ?_
    · refine s_if2 (b_and (b_cmp (e_bi (l_cons (e_var rfl (l_nil (bi_len (e_of b7) (e_cst (c_lt (b := 11) ?_)))))))))
      rw [List.length_map]
      by_cases hl : rs.length < 11
      · rw [if_pos (decide_eq_true hl)]
        refine b_not (b_val (e_call (l_cons (e_var rfl (l_cons (e_var rfl (l_cons (e_var rfl (l_nil ((h9 n R rs V3 T (by omega) b7).mono fun p hp => ?_))))))))))
        obtain ⟨d, V4⟩ := p
        obtain ⟨e, g9⟩ := hp
        dsimp only at e g9 ⊢
        subst e
        exact t_bl ⟨fun z => absurd z (by decide), fun _ => ss_nil ⟨_, _, rfl, rfl, sp7.mv g9, y7.trans g9.of_nil⟩⟩
      · rw [if_neg (by simpa using hl)]
        exact ⟨fun z => absurd z Bool.false_ne_true, fun _ => ss_nil ⟨_, _, rfl, rfl, sp7, y7⟩⟩
    obtain ⟨rfl, sp8, y8⟩ := h
    have b8 := y8.at hR hW
    have mapE : ((pairsOf n rs).map fun d => match d with
        | .tup [a, _] => a
        | _ => .non) = lotsOf n (clo n rs) := by
      rw [← pairE, List.map_map]
      rfl
    have plen : (pairsOf n rs).length ≤ 100000 := by
      rw [← pairE, List.length_map]
      have := closed_len (n := n) rs
      omega
    have second : ∀ x, x ∈ pairsOf n rs → ∃ a b, x = .tup [a, b] := fun x hx => by
      rw [← pairE] at hx
      obtain ⟨m, _, rfl⟩ := List.mem_map.mp hx
      exact ⟨_, _, rfl⟩
    have dd3 : ∀ (k : Nat) (S : Store), datL k S [.tup (lotsOf n (clo n rs)), .tup (pairsOf n rs)] = some [.tuple ((closed n rs).map fun m => pT (lotN m)), .tuple ((closed n rs).map (ppair rs))] := fun k S => by
      rw [← pairE, ← lotE]
      simp only [datL, dat, dat_pairs, dat_lots]
      rfl
    have ff3 : Fit (134145 * 2) 20 (.list [.tuple ((closed n rs).map fun m => pT (lotN m)), .tuple ((closed n rs).map (ppair rs))]) := by
      refine (fit_lst (b := 134144) (k := 3) fun x hx => ?_).mono (Nat.le_refl _) (by decide)
      simp only [List.mem_cons, List.not_mem_nil, or_false] at hx
      rcases hx with rfl | rfl
      · exact fit_lots T.n10
      · exact fit_pairs T.n10 T.len
    refine ss_cons (s_ret ((pv_cmp kB (pv_repr (pvl_cons kB (pv_callP kB pvl_nil (pvl_cons kB (pv_var rfl) pvl_nil) rfl cM) (pvl_cons kB (pv_call kB (pvl_cons kB (pv_var rfl) pvl_nil) cP) pvl_nil)) dd3 ff3 (by decide) (by show 2 ≤ 1000; decide)) (pv_repr (pvl_cons kB (pv_tmapE _ mapE kB (pv_var rfl) plen fun x hx => ?_) (pvl_cons kB (pv_var rfl) pvl_nil)) dd3 ff3 (by decide) (by show 2 ≤ 1000; decide)) (c := true) (fun S => c_eqS rfl) V4 b8).mono fun p hp => ⟨hp.1, sp8.mv hp.2, y8.trans hp.2.of_nil⟩))
    obtain ⟨a, b, rfl⟩ := second x hx
    exact ⟨_, rfl, pv_var rfl⟩
end
end Prog

set_option Elab.async false
set_option linter.all false
set_option maxRecDepth 100000
set_option maxHeartbeats 4000000
namespace Prog
open PySem PySem.Spec PySem.W Ev Lots
def IsSpring (cf : CallF) (i : Nat) : Prop := ∀ (ns : List Int) (S : Store), ns.length ≤ 63 → Ok (cf i [.frz (ns.map .int)] S) fun p => ∃ r g kn, p.1 = .ref r ∧ Spr r g kn p.2
def known (a : Int) : Nat := 2 * a.natAbs + if a < 0 then 1 else 0
theorem ints_nats : ∀ l : List Nat, intsOf (l.map dN) = some (l.map fun n : Nat => (n : Int))
  | [] => rfl
  | x :: l => by
    rw [List.map_cons, intsOf, ints_nats l]
    rfl
theorem sum_nats : ∀ l : List Nat, (l.map fun n : Nat => (n : Int)).sum = ((l.sum : Nat) : Int)
  | [] => rfl
  | x :: l => by
    rw [List.map_cons, List.sum_cons, List.sum_cons, sum_nats l]
    omega
section
variable {cf : CallF} {S : Store}
theorem bi_sum {k : Nat} {l : List Nat} {S : Store} {Q : D × Store → Prop} (e : S[k]? = some (l.map dN)) (h : Q (dN l.sum, S)) : Ok (biR .sum [.ref k] S) Q := by
  refine .of (a := (dN l.sum, S)) ?_ h
  unfold biR seqOf
  dsimp only
  rw [e]
  dsimp only [Option.bind]
  rw [ints_nats]
  dsimp only
  rw [sum_nats]
theorem o_pow18 {S : Store} {Q : D × Store → Prop} (h : Q (dN (10 ^ 18), S)) : Ok (opR .pow (.int 10) (.int 18) S) Q := by
  refine .of (a := (dN (10 ^ 18), S)) ?_ h
  unfold opR intOp
  dsimp only
  rw [if_pos (by decide)]
  rfl
theorem e_sli {a : Ex} {lo hi : Exo} {r : Ev.Env} {Q : D × Store → Prop} (h : Ok (evE cf a r S) fun p => Ok (evO cf lo r p.2) fun q => Ok (evO cf hi r q.2) fun u => Ok (slR p.1 q.1 u.1 u.2) Q) : Ok (evE cf (.sli a lo hi) r S) Q := by
  unfold evE
  exact (h.mono fun p h => (h.mono fun q h => h.bind).bind).bind
theorem o_none {r : Ev.Env} {Q : Option Int × Store → Prop} (h : Q (none, S)) : Ok (evO cf .none r S) Q := by
  unfold evO
  exact .some h
theorem o_some {e : Ex} {r : Ev.Env} {Q : Option Int × Store → Prop} (h : Ok (evE cf e r S) fun p => ∃ i, p.1 = .int i ∧ Q (some i, p.2)) : Ok (evO cf (.some e) r S) Q := by
  unfold evO
  refine (h.mono fun p h => ?_).bind
  obtain ⟨i, e, h⟩ := h
  rw [e]
  exact .some h
theorem bi_abs {i : Int} {S : Store} {Q : D × Store → Prop} (h : Q (dN i.natAbs, S)) : Ok (biR .abs [.int i] S) Q := by
  refine .of (a := (dN i.natAbs, S)) ?_ h
  unfold biR
  dsimp only
  have : (if i < 0 then -i else i) = (i.natAbs : Int) := by
    split <;> omega
  rw [this]
theorem bi_intB {b : Bool} {S : Store} {Q : D × Store → Prop} (h : Q (dN (if b = true then 1 else 0), S)) : Ok (biR .int [.bl b] S) Q := by
  refine .of (a := (dN (if b = true then 1 else 0), S)) ?_ h
  cases b <;> rfl
theorem spring_ok {ns : List Int} (hl : ns.length ≤ 63) : Ok (runDf cf ⟨3, 1, bSpring⟩ [.frz (ns.map .int)] S) fun p => ∃ r g kn, p.1 = .ref r ∧ Spr r g kn p.2 := by
  have sz : sizeLine = 2 ^ 24 := rfl
  obtain ⟨cs, hcs, hcl⟩ : ∃ cs : List Int, cutD (ns.map .int) none (some 63) = cs.map .int ∧ cs.length ≤ 63 := by
    unfold cutD
    refine ⟨(ns.drop (HT.sIx (ns.map D.int).length 0 none)).take (HT.sIx (ns.map D.int).length (ns.map D.int).length (some 63) - HT.sIx (ns.map D.int).length 0 none), ?_, ?_⟩
    · rw [List.map_take, List.map_drop]
    · rw [List.length_take, List.length_drop]
      omega
  refine run_ok rfl (ss_cons (s_set (comp1_map (fun d => match d with
    | .int a => dN (known a)
    | _ => .non) (i_ex (e_sli (e_var rfl (o_none (o_some (e_cst ⟨63, rfl, .of (a := (.ref S.length, S ++ [cutD (ns.map .int) none (some 63)])) rfl ?_⟩)))))))))
  rw [hcs]
  have p0 : (S ++ [cs.map D.int])[S.length]? = some (cs.map D.int) := at_push
  refine it_ref p0 ⟨fun n xs z => (by cases z; exact p0), ?_, fun x hx => ?_, fun S1 g1 c1 => ?_⟩
  · show (cs.map D.int).length ≤ _
    rw [List.length_map]
    omega
  · obtain ⟨a, _, rfl⟩ := List.mem_map.mp hx
    refine ⟨_, rfl, fun S2 hS => e_op (e_op (e_cst (e_bi (l_cons (e_var rfl (l_nil (bi_abs (.of (a := (dN (2 * a.natAbs), S2)) ?_ (e_bi (l_cons (e_cmp (e_var rfl (e_cst (.of (a := decide (a < 0)) rfl (l_nil (bi_intB (o_add ⟨?_, .refl⟩)))))))))))))))))⟩
    · unfold opR intOp
      dsimp only
      rw [if_pos (by unfold L2.CMul; omega)]
      simp
    · show dN (2 * a.natAbs + if decide (a < 0) = true then 1 else 0) = dN (known a)
      unfold known
      simp
  have c2 : S1[(S ++ [cs.map D.int]).length]? = some ((cs.map known).map dN) := by
    rw [c1]
    show some ((cs.map D.int).map _) = _
    rw [List.map_map, List.map_map]
    rfl
  generalize (S ++ [cs.map D.int]).length = K at c2
  have kl : (cs.map known).length ≤ 63 := by rw [List.length_map]; exact hcl
  generalize cs.map known = ks at c2 kl
  show Ok (evSs cf _ [some (.frz (ns.map .int)), some (.ref K), none] S1) _
  refine ss_cons (s_ret (e_lst (l_cons (comp1_pure (fun d => match d with
    | .int a => decide (10 ^ 18 ≤ a.toNat)
    | _ => false) (fun d => d) (i_ex (e_var rfl (it_ref c2 ⟨fun n xs z => (by cases z; exact c2), ?_, fun x hx => ?_, fun S3 g3 c3 => ?_⟩)))))))
  · show (ks.map dN).length ≤ _
    rw [List.length_map]
    omega
  · obtain ⟨a, _, rfl⟩ := List.mem_map.mp hx
    refine ⟨_, rfl, fun S2 hS => b_cmp (e_var rfl (e_op (e_cst (e_cst (o_pow18 (c_ge ⟨?_, .refl, fun _ => e_var rfl ⟨rfl, .refl⟩⟩))))))⟩
    simp
  have c4 : S3[S1.length]? = some ((ks.filter fun a => decide (10 ^ 18 ≤ a)).map dN) := by
    rw [c3]
    show some (((ks.map dN).filter _).map _) = _
    rw [List.map_id', List.filter_map]
    congr 2
  have c5 := g3.at c2 List.not_mem_nil
  have gl : (ks.filter fun a => decide (10 ^ 18 ≤ a)).length ≤ 1000 := by
    have := List.length_filter_le (fun a => decide (10 ^ 18 ≤ a)) ks
    omega
  generalize (ks.filter fun a => decide (10 ^ 18 ≤ a)) = gs at c4 gl
  have l1 := lt_at c4
  have l2 := lt_at c5
  refine l_cons (e_op (e_var rfl (e_lst (l_cons (e_op (e_bi (l_cons (e_var rfl (l_nil (bi_len (e_of c5) (e_cst (o_add (b := 41) (l_nil ⟨(by show 1 ≤ 2 ^ 24; decide), ?_⟩)))))))))))))
  have c6 := (Ext.push (W := []) (x := [dN ((ks.map dN).length + 41)])).at c5 List.not_mem_nil
  have c7 := (Ext.push (W := []) (x := [dN ((ks.map dN).length + 41)])).at c4 List.not_mem_nil
  have c8 : (S3 ++ [[dN ((ks.map dN).length + 41)]])[S3.length]? = some [dN ((ks.map dN).length + 41)] := at_push
  show Ok (opR _ _ _ (S3 ++ [[dN ((ks.map dN).length + 41)]])) _
  have l3 := lt_at c8
  generalize S3 ++ [[dN ((ks.map dN).length + 41)]] = U at c6 c7 c8 l3
  refine o_addL c6 c8 (by rw [List.length_map]; show ks.length + 1 ≤ _; omega) ?_
  have c9 := (Ext.push (W := []) (x := ks.map dN ++ [dN ((ks.map dN).length + 41)])).at c6 List.not_mem_nil
  have d1 := (Ext.push (W := []) (x := ks.map dN ++ [dN ((ks.map dN).length + 41)])).at c7 List.not_mem_nil
  have d2 : (U ++ [ks.map dN ++ [dN ((ks.map dN).length + 41)]])[U.length]? = some ((ks ++ [ks.length + 41]).map dN) := by
    rw [at_push, List.map_append, List.length_map]
    rfl
  have l4 := lt_at c7
  have l5 := lt_at d2
  refine l_cons (e_bi (l_cons (e_var rfl (l_nil (bi_sum c9 (l_cons (e_cst (l_nil ⟨(by show 4 ≤ 2 ^ 24; decide), ?_⟩))))))))
  generalize U ++ [ks.map dN ++ [dN ((ks.map dN).length + 41)]] = V at d1 d2 l5
  refine ⟨V.length, S1.length, U.length, rfl, gs, ks ++ [ks.length + 41], ks.sum, 0, at_push, (Ext.push (W := [])).at d1 List.not_mem_nil, (Ext.push (W := [])).at d2 List.not_mem_nil, by simp, ?_, ?_, ?_, gl, ?_⟩
  · have := lt_at d1; omega
  · omega
  · omega
  · rw [List.length_append, List.length_singleton]; omega
end
end Prog

set_option Elab.async false
set_option linter.all false
set_option maxRecDepth 100000
set_option maxHeartbeats 8000000
namespace Prog
open PySem PySem.Spec PySem.W Ev Lots
def bLaw22 : Sxs := (.cons (.set (.nm 1) (.call 15 (.cons (.var 0) .nil))) (.cons (.for (.nm 2) (.rng1 (.cst (.int 3))) (.cons (.set (.nm 7) (.call 17 (.cons (.var 1) (.cons (.lst (.cons (.cst (.int 2)) (.cons (.cst (.int 3)) (.cons (.cst (.int 4)) (.cons (.cst (.int 6)) (.cons (.cst (.int 8)) (.cons (.cst (.int 10)) (.cons (.cst (.int 10)) .nil)))))))) .nil)))) (.cons (.set (.nm 3) (.call 20 (.cons (.var 1) (.cons (.var 7) (.cons (.call 17 (.cons (.var 1) (.cons (.lst (.cons (.cst (.int 0)) (.cons (.cst (.int 1)) (.cons (.cst (.int 2)) (.cons (.cst (.int 3)) (.cons (.cst (.int 4)) (.cons (.cst (.int 5)) (.cons (.cst (.int 6)) (.cons (.cst (.int 6)) .nil))))))))) .nil))) .nil))))) (.cons (.iff (.not (.val (.call 30 (.cons (.var 1) (.cons (.var 7) (.cons (.var 3) (.cons (.call 25 (.cons (.var 7) (.cons (.var 3) .nil))) .nil))))))) (.cons (.ret (.cst (.bl false))) .nil) .nil) .nil)))) (.cons (.for (.nm 2) (.rng1 (.cst (.int 2))) (.cons (.set (.nm 7) (.call 16 (.cons (.var 1) (.cons (.cst (.int 6)) .nil)))) (.cons (.set (.nm 3) (.call 20 (.cons (.var 1) (.cons (.var 7) (.cons (.call 17 (.cons (.var 1) (.cons (.ite (.cmp .eq (.var 2) (.cst (.int 0))) (.lst (.cons (.cst (.int 7)) (.cons (.cst (.int 10)) (.cons (.cst (.int 10)) (.cons (.cst (.int 25)) (.cons (.cst (.int 60)) .nil)))))) (.lst (.cons (.cst (.int 2)) (.cons (.cst (.int 5)) (.cons (.cst (.int 8)) (.cons (.cst (.int 10)) .nil)))))) .nil))) .nil))))) (.cons (.iff (.not (.val (.call 30 (.cons (.var 1) (.cons (.var 7) (.cons (.var 3) (.cons (.call 24 (.cons (.var 7) (.cons (.var 3) .nil))) .nil))))))) (.cons (.ret (.cst (.bl false))) .nil) .nil) .nil)))) (.cons (.set (.nm 3) (.comp1 (.nm 8) (.rng1 (.cst (.int 7))) .yes (.op .sub (.cst (.int 127)) (.op .bor (.op .shl (.cst (.int 1)) (.var 8)) (.op .shl (.cst (.int 1)) (.call 16 (.cons (.var 1) (.cons (.cst (.int 7)) .nil)))))) [8])) (.cons (.iff (.cmp .eq (.call 16 (.cons (.var 1) (.cons (.cst (.int 2)) .nil))) (.cst (.int 0))) (.cons (.set (.nm 3) (.op .add (.comp1 (.nm 8) (.rng1 (.cst (.int 7))) .yes (.op .sub (.cst (.int 127)) (.op .shl (.cst (.int 1)) (.var 8))) [8]) (.lst (.cons (.op .sub (.cst (.int 127)) (.op .shl (.cst (.int 1)) (.call 16 (.cons (.var 1) (.cons (.cst (.int 7)) .nil))))) .nil)))) .nil) .nil) (.cons (.iff (.not (.val (.call 30 (.cons (.var 1) (.cons (.cst (.int 7)) (.cons (.var 3) (.cons (.call 24 (.cons (.cst (.int 7)) (.cons (.var 3) .nil))) .nil))))))) (.cons (.ret (.cst (.bl false))) .nil) .nil) (.cons (.set (.nm 4) (.tup (.cons (.cst (.int 3)) (.cons (.tup (.cons (.tup (.cons (.cst (.int 0)) (.cons (.cst (.int 2)) .nil))) (.cons (.tup (.cons (.cst (.int 0)) (.cons (.cst (.int 1)) (.cons (.cst (.int 2)) .nil)))) (.cons (.tup (.cons (.cst (.int 0)) (.cons (.cst (.int 2)) .nil))) (.cons (.tup (.cons (.cst (.int 1)) .nil)) .nil))))) .nil)))) (.cons (.set (.nm 5) (.lst (.cons (.call 14 (.cons (.var 4) .nil)) (.cons (.call 12 (.cons (.var 4) (.cons (.tup .nil) .nil))) (.cons (.call 12 (.cons (.var 4) (.cons (.tup (.cons (.cst (.int 0)) (.cons (.cst (.int 1)) .nil))) .nil))) (.cons (.call 12 (.cons (.var 4) (.cons (.tup (.cons (.cst (.int 2)) .nil)) .nil))) .nil)))))) (.cons (.set (.nm 6) (.tup (.cons (.tup (.cons (.tup .nil) (.cons (.tup (.cons (.cst (.int 0)) (.cons (.cst (.int 1)) (.cons (.cst (.int 2)) (.cons (.cst (.int 3)) .nil))))) .nil))) (.cons (.tup (.cons (.tup (.cons (.cst (.int 1)) .nil)) (.cons (.tup (.cons (.cst (.int 1)) (.cons (.cst (.int 3)) .nil))) .nil))) (.cons (.tup (.cons (.tup (.cons (.cst (.int 0)) (.cons (.cst (.int 2)) .nil))) (.cons (.tup (.cons (.cst (.int 0)) (.cons (.cst (.int 1)) (.cons (.cst (.int 2)) .nil)))) .nil))) (.cons (.tup (.cons (.tup (.cons (.cst (.int 0)) (.cons (.cst (.int 1)) (.cons (.cst (.int 2)) .nil)))) (.cons (.tup (.cons (.cst (.int 1)) .nil)) .nil))) .nil)))))) (.cons (.ret (.cmp .eq (.bi .repr (.cons (.var 5) .nil)) (.bi .repr (.cons (.lst (.cons (.var 6) (.cons (.tup (.cons (.cst (.int 0)) (.cons (.cst (.int 1)) (.cons (.cst (.int 2)) (.cons (.cst (.int 3)) .nil))))) (.cons (.tup (.cons (.cst (.int 1)) .nil)) (.cons (.tup (.cons (.cst (.int 0)) (.cons (.cst (.int 1)) (.cons (.cst (.int 2)) .nil)))) .nil))))) .nil)))) .nil))))))))))
theorem mem_dN {l : List Nat} {d : D} (h : d ∈ l.map dN) : ∃ x, x ∈ l ∧ d = dN x := mem_nats h
section
variable {cf : CallF} {S : Store}
/-- a list of written numbers, one of which is picked -/
theorem pick_nats {r g kn pk : Nat} {l : List Nat} {S : Store} {Q : D × Store → Prop} (hP : IsPick cf pk) (s0 : Spr r g kn S) (h0 : 0 < l.length) (hl : l.length ≤ 1000) (h : ∀ (v : Nat) (S' : Store), v ∈ l → Spr r g kn S' → Ext [r, g] S S' → Q (dN v, S')) : Ok (cf pk [.ref r, .ref S.length] (S ++ [l.map dN])) Q := by
  obtain ⟨lr, lg, lk⟩ := s0.lt
  refine (hP r g kn S.length (l.map dN) (S ++ [l.map dN]) (s0.mv .push) at_push (by omega) (by omega) (by rw [List.length_map]; exact h0) (by rw [List.length_map]; omega)).mono fun p hp => ?_
  obtain ⟨d, S1⟩ := p
  obtain ⟨e, h1, h2⟩ := hp
  dsimp only at e h1 h2
  obtain ⟨v, hv, rfl⟩ := mem_nats e
  exact h v S1 hv h1 (Ext.push.trans h2)
theorem check_ok {r g kn R w ri du L : Nat} {rs : List Nat} {env : Ev.Env} {e7 : Ex} (hR : IsRight cf ri) (hD : IsDue cf du L) (s0 : Spr r g kn S) (T : Tb w rs) (hL : rs.length ≤ L) (n1 : R ≠ r) (n2 : R ≠ g) (c : S[R]? = some (rs.map dN)) (e1 : env[1]? = some (some (.ref r))) (e3 : env[3]? = some (some (.ref R))) (h7 : ∀ S, Ok (evE cf e7 env S) fun p => p = (dN w, S)) {t : Sxs} {Q : Fl → Prop}
    (h : ∀ S', Spr r g kn S' → Q (.nx env S')) : Ok (evS cf (.iff (.not (.val (.call ri (.cons (.var 1) (.cons e7 (.cons (.var 3) (.cons (.call du (.cons e7 (.cons (.var 3) .nil))) .nil))))))) t .nil) env S) Q := by
  refine s_if2 (b_not (b_val (e_call (l_cons (e_var e1 (l_cons ((h7 S).mono fun p hp => ?_)))))))
  subst hp
  refine l_cons (e_var e3 (l_cons (e_call (l_cons ((h7 S).mono fun p hp => ?_)))))
  subst hp
  refine l_cons (e_var e3 (l_nil ((hD w R rs S T.n10 hL T.tab c).mono fun p hp => ?_)))
  obtain ⟨d, S1⟩ := p
  obtain ⟨e, g1⟩ := hp
  dsimp only at e g1 ⊢
  subst e
  refine l_nil ((hR r g kn w R rs S1 (s0.mv g1) n1 n2 T (g1.at c List.not_mem_nil)).mono fun p hp => ?_)
  obtain ⟨d, S2⟩ := p
  obtain ⟨e, g2, g3⟩ := hp
  dsimp only at e g2 g3 ⊢
  subst e
  exact t_bl ⟨fun z => absurd z (by decide), fun _ => ss_nil (h S2 g2)⟩
theorem law_ok (h12 : IsShared cf 12) (h14 : IsPairs cf 14) (h15 : IsSpring cf 15) (h16 : IsDraw cf 16) (h17 : IsPick cf 17) (h20 : IsRows cf 20) (h24 : IsDue cf 24 64) (h25 : IsDue cf 25 10) (h30 : IsRight cf 30) {ns : List Int} (hl : ns.length ≤ 63) : Ok (runDf cf ⟨9, 1, bLaw22⟩ [.frz (ns.map .int)] S) fun p => p.1 = .bl true := by
  have sz : sizeLine = 2 ^ 24 := rfl
  refine run_ok rfl (ss_cons (s_set (e_call (l_cons (e_var rfl (l_nil ((h15 ns S hl).mono fun p hp => ?_)))))))
  obtain ⟨d, S1⟩ := p
  obtain ⟨r, g, kn, e, s1⟩ := hp
  dsimp only at e s1 ⊢
  subst e
  -- tables of few rows
  refine ss_cons (s_for (i_rng (e_cst ⟨3, rfl, by decide, ?_⟩)))
  refine for_ok (g := none) (fun rem e S' => Spr r g kn S' ∧ ∃ o2 o3 o7, e = [some (.frz (ns.map .int)), some (.ref r), o2, o3, none, none, none, o7, none]) (fun _ _ _ _ => trivial) (fun x rem e S' h => ?_) (fun e S' h => ?_) ⟨s1, none, none, none, rfl⟩
  · obtain ⟨s2, o2, o3, o7, rfl⟩ := h
    refine ⟨_, rfl, ss_cons (s_set (e_call (l_cons (e_var rfl (l_cons (e_lst (l_cons (e_cst (l_cons (e_cst (l_cons (e_cst (l_cons (e_cst (l_cons (e_cst (l_cons (e_cst (l_cons (e_cst (l_nil ⟨(by show 7 ≤ 2 ^ 24; decide), l_nil (pick_nats (l := [2, 3, 4, 6, 8, 10, 10]) h17 s2 (by decide) (by decide) fun w S2 hw s3 _ => ?_)⟩)))))))))))))))))))))⟩
    have hw10 : w ≤ 10 := by
      simp only [List.mem_cons, List.not_mem_nil, or_false] at hw
      omega
    refine ss_cons (s_set (e_call (l_cons (e_var rfl (l_cons (e_var rfl (l_cons (e_call (l_cons (e_var rfl (l_cons (e_lst (l_cons (e_cst (l_cons (e_cst (l_cons (e_cst (l_cons (e_cst (l_cons (e_cst (l_cons (e_cst (l_cons (e_cst (l_cons (e_cst (l_nil ⟨(by show 8 ≤ 2 ^ 24; decide), l_nil (pick_nats (l := [0, 1, 2, 3, 4, 5, 6, 6]) h17 s3 (by decide) (by decide) fun m S3 hm s4 _ => ?_)⟩)))))))))))))))))))))))))))))
    have hm6 : m ≤ 6 := by
      simp only [List.mem_cons, List.not_mem_nil, or_false] at hm
      omega
    refine l_nil ((h20 r g kn w m S3 s4 (by omega) (by omega)).mono fun p hp => ?_)
    obtain ⟨d, S4⟩ := p
    obtain ⟨k, rs, e, hk, hrl, hr, hc, s5, x5⟩ := hp
    dsimp only at e hc s5 x5 ⊢
    subst e
    obtain ⟨lr, lg, lk⟩ := s4.lt
    exact ss_cons (check_ok h30 h25 s5 ⟨hw10, hr, by omega⟩ (by omega) (by omega) (by omega) hc rfl rfl (fun S => e_var rfl rfl) fun S5 s6 => ss_nil ⟨s6, _, _, _, rfl⟩)
  · obtain ⟨s2, o2, o3, o7, rfl⟩ := h
    -- tables of many rows
    refine ss_cons (s_for (i_rng (e_cst ⟨2, rfl, by decide, ?_⟩)))
    refine for_ok (g := none) (fun rem e S' => Spr r g kn S' ∧ ∃ (ts : List Nat) (o2 o3 o7 : Option D), rem = ts.map dN ∧ e = [some (.frz (ns.map .int)), some (.ref r), o2, o3, none, none, none, o7, none]) (fun _ _ _ _ => trivial) (fun x rem e S' h => ?_) (fun e S' h => ?_) ⟨s2, List.range 2, o2, o3, o7, rng_nat 2, rfl⟩
    · obtain ⟨s3, ts, o2, o3, o7, e1, rfl⟩ := h
      cases ts with
      | nil => cases e1
      | cons t ts =>
        cases e1
        refine ⟨_, rfl, ss_cons (s_set (e_call (l_cons (e_var rfl (l_cons (e_cst (l_nil ((h16 r g kn 6 S' s3 (by decide) (by decide)).mono fun p hp => ?_))))))))⟩
        obtain ⟨d, S2⟩ := p
        obtain ⟨w, hw, e, s4, _⟩ := hp
        dsimp only at e s4 ⊢
        subst e
        have fin : ∀ (m : Nat) (S3 : Store), m ≤ 60 → Spr r g kn S3 → Ok (cf 20 [.ref r, dN w, dN m] S3) fun p => ∃ (k : Nat) (rs : List Nat), p.1 = .ref k ∧ S3.length ≤ k ∧ rs.length = m ∧ (∀ x, x ∈ rs → x < 2 ^ w) ∧ p.2[k]? = some (rs.map dN) ∧ Spr r g kn p.2 ∧ Ext [r, g] S3 p.2 := fun m S3 hm s5 => h20 r g kn w m S3 s5 (by omega) (by omega)
        have fin2 : ∀ (m : Nat) (S3 : Store) {Q : Fl → Prop}, m ≤ 60 → Spr r g kn S3 → (∀ (o2 o3 o7 : Option D) (S5 : Store), Spr r g kn S5 → Q (.nx [some (.frz (ns.map .int)), some (.ref r), o2, o3, none, none, none, o7, none] S5)) → Ok (cf 20 [.ref r, dN w, dN m] S3) fun p => Ok (evSs cf (.cons (.iff (.not (.val (.call 30 (.cons (.var 1) (.cons (.var 7) (.cons (.var 3) (.cons (.call 24 (.cons (.var 7) (.cons (.var 3) .nil))) .nil))))))) (.cons (.ret (.cst (.bl false))) .nil) .nil) .nil) [some (.frz (ns.map .int)), some (.ref r), some (dN t), some p.1, none, none, none, some (dN w), none] p.2) Q := by
          intro m S3 Q hm s5 k
          refine (fin m S3 hm s5).mono fun p hp => ?_
          obtain ⟨d, S4⟩ := p
          obtain ⟨k', rs, e, hk, hrl, hr, hc, s6, x6⟩ := hp
          dsimp only at e hc s6 x6 ⊢
          subst e
          obtain ⟨lr, lg, lk⟩ := s5.lt
          exact ss_cons (check_ok h30 h24 s6 ⟨by omega, hr, by omega⟩ (by omega) (by omega) (by omega) hc rfl rfl (fun S => e_var rfl rfl) fun S5 s7 => ss_nil (k _ _ _ S5 s7))
        refine ss_cons (s_set (e_call (l_cons (e_var rfl (l_cons (e_var rfl (l_cons (e_call (l_cons (e_var rfl (l_cons (e_ite (b_cmp (e_var rfl (e_cst (c_eq (b := 0) ?_))))))))))))))))
        split
        · refine e_lst (l_cons (e_cst (l_cons (e_cst (l_cons (e_cst (l_cons (e_cst (l_cons (e_cst (l_nil ⟨(by show 5 ≤ 2 ^ 24; decide), l_nil (pick_nats (l := [7, 10, 10, 25, 60]) h17 s4 (by decide) (by decide) fun m S3 hm s5 _ => l_nil (fin2 m S3 ?_ s5 fun o2 o3 o7 S5 s7 => ⟨s7, ts, o2, o3, o7, rfl, rfl⟩))⟩)))))))))))
          simp only [List.mem_cons, List.not_mem_nil, or_false] at hm
          omega
        · refine e_lst (l_cons (e_cst (l_cons (e_cst (l_cons (e_cst (l_cons (e_cst (l_nil ⟨(by show 4 ≤ 2 ^ 24; decide), l_nil (pick_nats (l := [2, 5, 8, 10]) h17 s4 (by decide) (by decide) fun m S3 hm s5 _ => l_nil (fin2 m S3 ?_ s5 fun o2 o3 o7 S5 s7 => ⟨s7, ts, o2, o3, o7, rfl, rfl⟩))⟩)))))))))
          simp only [List.mem_cons, List.not_mem_nil, or_false] at hm
          omega
    · obtain ⟨s3, ts, o2, o3, o7, e1, rfl⟩ := h
      -- rows that lack one thing or two
      have below : ∀ a : Nat, 127 - a < 128 := fun a => by omega
      have dr : ∀ (S' : Store) {e : Ev.Env}, e[1]? = some (some (.ref r)) → Spr r g kn S' → Ok (evE cf (.call 16 (.cons (.var 1) (.cons (.cst (.int 7)) .nil))) e S') fun p => ∃ v, v < 7 ∧ p.1 = dN v ∧ Spr r g kn p.2 ∧ Ext [r, g] S' p.2 := fun S' e he s => e_call (l_cons (e_var he (l_cons (e_cst (l_nil (h16 r g kn 7 S' s (by decide) (by decide)))))))
      refine ss_cons (s_set (draws_ok (m := 7) (rr := r) (g := g) (kn := kn) (w := 128) (by decide) s3 (fun x hx S2 q1 q2 => ?_) fun S2 vs a b c cl d => ?_))
      · refine e_op (e_cst (e_op (e_op (e_cst (e_var rfl (o_shl1 (by omega) (e_op (e_cst ((dr S2 rfl q1).mono fun p hp => ?_)))))))))
        obtain ⟨dd, S3⟩ := p
        obtain ⟨v, hv, e, t1, t2⟩ := hp
        dsimp only at e t1 t2 ⊢
        subst e
        refine o_shl1 (by omega) (o_or (o_sub (a := 127) ?_ ⟨_, below _, rfl, t1, t2⟩))
        have : 2 ^ x ||| 2 ^ v < 2 ^ 7 := Nat.or_lt_two_pow (Nat.pow_lt_pow_right (by decide) hx) (Nat.pow_lt_pow_right (by decide) hv)
        omega
      obtain ⟨lr, lg, lk⟩ := s3.lt
      show Ok (evSs cf _ [some (.frz (ns.map .int)), some (.ref r), o2, some (.ref S'.length), none, none, none, o7, none] S2) _
      refine ss_step (fun e V => ∃ (R : Nat) (rs : List Nat), e = [some (.frz (ns.map .int)), some (.ref r), o2, some (.ref R), none, none, none, o7, none] ∧ V[R]? = some (rs.map dN) ∧ (∀ x, x ∈ rs → x < 128) ∧ rs.length ≤ 64 ∧ R ≠ r ∧ R ≠ g ∧ Spr r g kn V) ?_ fun e V h => ?_
      · refine s_if2 (b_cmp (e_call (l_cons (e_var rfl (l_cons (e_cst (l_nil ((h16 r g kn 2 S2 b (by decide) (by decide)).mono fun p hp => ?_))))))))
        obtain ⟨dd, S3⟩ := p
        obtain ⟨v, hv, e, t1, t2⟩ := hp
        dsimp only at e t1 t2 ⊢
        subst e
        have d3 := t2.at d (by simp; omega)
        refine e_cst (c_eq (b := 0) ⟨fun _ => ?_, fun _ => ss_nil ⟨_, _, rfl, S'.length, vs, rfl, d3, c, by omega, by omega, by omega, t1⟩⟩)
        obtain ⟨lr3, lg3, lk3⟩ := t1.lt
        refine ss_cons (s_set (e_op (draws_ok (m := 7) (rr := r) (g := g) (kn := kn) (w := 128) (by decide) t1 (fun x hx S4 q1 q2 => ?_) fun S4 us a4 b4 c4 cl4 d4 => ?_)))
        · refine e_op (e_cst (e_op (e_cst (e_var rfl (o_shl1 (by omega) (o_sub (a := 127) ?_ ⟨_, below _, rfl, q1, .refl⟩))))))
          have : 2 ^ x < 2 ^ 7 := Nat.pow_lt_pow_right (by decide) hx
          omega
        obtain ⟨lr4, lg4, lk4⟩ := b4.lt
        refine e_lst (l_cons (e_op (e_cst (e_op (e_cst ((dr S4 rfl b4).mono fun p hp => ?_))))))
        obtain ⟨dd, S5⟩ := p
        obtain ⟨v2, hv2, e, t3, t4⟩ := hp
        dsimp only at e t3 t4 ⊢
        subst e
        refine o_shl1 (by omega) (o_sub (a := 127) ?_ (l_nil ⟨(by show 1 ≤ 2 ^ 24; decide), ?_⟩))
        · have : 2 ^ v2 < 2 ^ 7 := Nat.pow_lt_pow_right (by decide) hv2
          omega
        have d5 := (t4.trans (Ext.push (x := [dN (127 - 2 ^ v2)]))).at d4 (by simp; omega)
        obtain ⟨lr5, lg5, lk5⟩ := t3.lt
        refine o_addL d5 at_push (by rw [List.length_map]; show us.length + 1 ≤ _; omega) (ss_nil ⟨_, _, rfl, _, us ++ [127 - 2 ^ v2], rfl, ?_, fun x hx => ?_, ?_, ?_, ?_, t3.mv (Ext.push.trans .push)⟩)
        · rw [at_push, List.map_append]
          rfl
        · rcases List.mem_append.mp hx with hx | hx
          · exact c4 x hx
          · rw [List.mem_singleton.mp hx]; exact below _
        · rw [List.length_append, List.length_singleton]; omega
        · show (S5 ++ [[dN (127 - 2 ^ v2)]]).length ≠ r
          rw [List.length_append, List.length_singleton]
          omega
        · show (S5 ++ [[dN (127 - 2 ^ v2)]]).length ≠ g
          rw [List.length_append, List.length_singleton]
          omega
      obtain ⟨R, rs, rfl, hR, hr, hrl, n1, n2, s4⟩ := h
      refine ss_cons (check_ok (w := 7) h30 h24 s4 ⟨by decide, hr, hrl⟩ hrl n1 n2 hR rfl rfl (fun S => e_cst rfl) fun V2 s5 => ?_)
      -- the written table
      have kB : Keep fun _ : Store => True := ⟨fun _ _ _ _ => trivial⟩
      have T0 : Tb 3 [5, 7, 5, 2] := ⟨by decide, by decide, by decide⟩
      have TT := T0.tab
      have q5 : lotN 5 = [0, 2] := by decide +kernel
      have q7 : lotN 7 = [0, 1, 2] := by decide +kernel
      have q2 : lotN 2 = [1] := by decide +kernel
      have q0 : lotN 0 = [] := by decide +kernel
      have p0 : having [5, 7, 5, 2] 0 = [0, 1, 2, 3] := by decide +kernel
      have p2 : having [5, 7, 5, 2] 2 = [1, 3] := by decide +kernel
      have p5 : having [5, 7, 5, 2] 5 = [0, 1, 2] := by decide +kernel
      have p7 : having [5, 7, 5, 2] 7 = [1] := by decide +kernel
      have cl0 : closed 3 [5, 7, 5, 2] = [0, 2, 5, 7] := by decide +kernel
      have tE : tabD 3 [5, 7, 5, 2] = .tup [dN 3, .tup [dTn [0, 2], dTn [0, 1, 2], dTn [0, 2], dTn [1]]] := by
        show D.tup [dN 3, D.tup [dTn (lotN 5), dTn (lotN 7), dTn (lotN 5), dTn (lotN 2)]] = _
        rw [q5, q7, q2]
      have pE : pairsOf 3 [5, 7, 5, 2] = [.tup [dTn [], dTn [0, 1, 2, 3]], .tup [dTn [1], dTn [1, 3]], .tup [dTn [0, 2], dTn [0, 1, 2]], .tup [dTn [0, 1, 2], dTn [1]]] := by
        show (closed 3 [5, 7, 5, 2]).map (pairD [5, 7, 5, 2]) = _
        rw [cl0]
        show [pairD [5, 7, 5, 2] 0, pairD [5, 7, 5, 2] 2, pairD [5, 7, 5, 2] 5, pairD [5, 7, 5, 2] 7] = _
        unfold pairD
        rw [q0, q2, q5, q7, p0, p2, p5, p7]
      have num : ∀ {e : Ev.Env} (n : Nat), Pv cf (fun _ => True) e (.cst (.int (n : Int))) (dN n) := fun n => pv_cst
      refine ss_cons (s_set ((pv_tup (ds := [dN 3, .tup [dTn [0, 2], dTn [0, 1, 2], dTn [0, 2], dTn [1]]]) (pvl_cons kB (num 3) (pvl_cons kB (pv_tup (ds := [dTn [0, 2], dTn [0, 1, 2], dTn [0, 2], dTn [1]]) (pvl_cons kB (pv_tup (ds := [dN 0, dN 2]) (pvl_cons kB (num 0) (pvl_cons kB (num 2) pvl_nil)) (by decide)) (pvl_cons kB (pv_tup (ds := [dN 0, dN 1, dN 2]) (pvl_cons kB (num 0) (pvl_cons kB (num 1) (pvl_cons kB (num 2) pvl_nil))) (by decide)) (pvl_cons kB (pv_tup (ds := [dN 0, dN 2]) (pvl_cons kB (num 0) (pvl_cons kB (num 2) pvl_nil)) (by decide)) (pvl_cons kB (pv_tup (ds := [dN 1]) (pvl_cons kB (num 1) pvl_nil) (by decide)) pvl_nil)))) (by decide)) pvl_nil)) (by decide) V2 trivial).mono fun p hp => ?_))
      obtain ⟨dd, V3⟩ := p
      obtain ⟨e, _⟩ := hp
      dsimp only at e ⊢
      subst e
      rw [← tE]
      have cP : Pc cf (fun _ => True) 14 [tabD 3 [5, 7, 5, 2]] (.tup (pairsOf 3 [5, 7, 5, 2])) := fun S _ => h14 3 [5, 7, 5, 2] S TT
      have cS : ∀ (xs ps : List Nat), (∀ x, x ∈ xs → x ≤ 1000000) → having [5, 7, 5, 2] (maskL xs) = ps → Pc cf (fun _ => True) 12 [tabD 3 [5, 7, 5, 2], dTn xs] (dTn ps) := fun xs ps hx e S _ => (h12 3 [5, 7, 5, 2] xs S TT hx).mono fun p hp => by
        rw [e] at hp
        exact hp
      refine ss_cons (s_set (e_lst (((pvl_cons kB (pv_call kB (pvl_cons kB (pv_var rfl) pvl_nil) cP) (pvl_cons kB (pv_call kB (pvl_cons kB (pv_var rfl) (pvl_cons kB (pv_tup (ds := []) pvl_nil (by decide)) pvl_nil)) (cS [] [0, 1, 2, 3] (by decide) (by decide +kernel))) (pvl_cons kB (pv_call kB (pvl_cons kB (pv_var rfl) (pvl_cons kB (pv_tup (ds := [dN 0, dN 1]) (pvl_cons kB (num 0) (pvl_cons kB (num 1) pvl_nil)) (by decide)) pvl_nil)) (cS [0, 1] [1] (by decide) (by decide +kernel))) (pvl_cons kB (pv_call kB (pvl_cons kB (pv_var rfl) (pvl_cons kB (pv_tup (ds := [dN 2]) (pvl_cons kB (num 2) pvl_nil) (by decide)) pvl_nil)) (cS [2] [0, 1, 2] (by decide) (by decide +kernel))) pvl_nil)))) V3 trivial).mono fun p hp => ?_)))
      obtain ⟨dd, V4⟩ := p
      obtain ⟨e, _⟩ := hp
      dsimp only at e ⊢
      subst e
      refine ⟨(by show 4 ≤ 2 ^ 24; decide), ?_⟩
      have atK : (V4 ++ [[D.tup (pairsOf 3 [5, 7, 5, 2]), dTn [0, 1, 2, 3], dTn [1], dTn [0, 1, 2]]])[V4.length]? = some [.tup (pairsOf 3 [5, 7, 5, 2]), dTn [0, 1, 2, 3], dTn [1], dTn [0, 1, 2]] := at_push
      show Ok (evSs cf _ _ (V4 ++ [[D.tup (pairsOf 3 [5, 7, 5, 2]), dTn [0, 1, 2, 3], dTn [1], dTn [0, 1, 2]]])) _
      generalize V4 ++ [[D.tup (pairsOf 3 [5, 7, 5, 2]), dTn [0, 1, 2, 3], dTn [1], dTn [0, 1, 2]]] = V5 at atK
      have kC : Keep fun S : Store => S[V4.length]? = some [.tup (pairsOf 3 [5, 7, 5, 2]), dTn [0, 1, 2, 3], dTn [1], dTn [0, 1, 2]] := keep_at
      have numC : ∀ {e : Ev.Env} (n : Nat), Pv cf (fun S => S[V4.length]? = some [.tup (pairsOf 3 [5, 7, 5, 2]), dTn [0, 1, 2, 3], dTn [1], dTn [0, 1, 2]]) e (.cst (.int (n : Int))) (dN n) := fun n => pv_cst
      have dueE : ∀ {B : Store → Prop} {e : Ev.Env} (kB : Keep B), Pv cf B e (.tup (.cons (.tup (.cons (.tup .nil) (.cons (.tup (.cons (.cst (.int 0)) (.cons (.cst (.int 1)) (.cons (.cst (.int 2)) (.cons (.cst (.int 3)) .nil))))) .nil))) (.cons (.tup (.cons (.tup (.cons (.cst (.int 1)) .nil)) (.cons (.tup (.cons (.cst (.int 1)) (.cons (.cst (.int 3)) .nil))) .nil))) (.cons (.tup (.cons (.tup (.cons (.cst (.int 0)) (.cons (.cst (.int 2)) .nil))) (.cons (.tup (.cons (.cst (.int 0)) (.cons (.cst (.int 1)) (.cons (.cst (.int 2)) .nil)))) .nil))) (.cons (.tup (.cons (.tup (.cons (.cst (.int 0)) (.cons (.cst (.int 1)) (.cons (.cst (.int 2)) .nil)))) (.cons (.tup (.cons (.cst (.int 1)) .nil)) .nil))) .nil))))) (.tup (pairsOf 3 [5, 7, 5, 2])) := fun {B e} kB => by
        have nu : ∀ n : Nat, Pv cf B e (.cst (.int (n : Int))) (dN n) := fun n => pv_cst
        have t0 : Pv cf B e (.tup .nil) (dTn []) := pv_tup pvl_nil (by decide)
        have t1 : Pv cf B e (.tup (.cons (.cst (.int 1)) .nil)) (dTn [1]) := pv_tup (ds := [dN 1]) (pvl_cons kB (nu 1) pvl_nil) (by show 1 ≤ 1000; decide)
        have t13 : Pv cf B e (.tup (.cons (.cst (.int 1)) (.cons (.cst (.int 3)) .nil))) (dTn [1, 3]) := pv_tup (ds := [dN 1, dN 3]) (pvl_cons kB (nu 1) (pvl_cons kB (nu 3) pvl_nil)) (by show 2 ≤ 1000; decide)
        have t02 : Pv cf B e (.tup (.cons (.cst (.int 0)) (.cons (.cst (.int 2)) .nil))) (dTn [0, 2]) := pv_tup (ds := [dN 0, dN 2]) (pvl_cons kB (nu 0) (pvl_cons kB (nu 2) pvl_nil)) (by show 2 ≤ 1000; decide)
        have t012 : Pv cf B e (.tup (.cons (.cst (.int 0)) (.cons (.cst (.int 1)) (.cons (.cst (.int 2)) .nil)))) (dTn [0, 1, 2]) := pv_tup (ds := [dN 0, dN 1, dN 2]) (pvl_cons kB (nu 0) (pvl_cons kB (nu 1) (pvl_cons kB (nu 2) pvl_nil))) (by show 3 ≤ 1000; decide)
        have t0123 : Pv cf B e (.tup (.cons (.cst (.int 0)) (.cons (.cst (.int 1)) (.cons (.cst (.int 2)) (.cons (.cst (.int 3)) .nil))))) (dTn [0, 1, 2, 3]) := pv_tup (ds := [dN 0, dN 1, dN 2, dN 3]) (pvl_cons kB (nu 0) (pvl_cons kB (nu 1) (pvl_cons kB (nu 2) (pvl_cons kB (nu 3) pvl_nil)))) (by show 4 ≤ 1000; decide)
        have two : ∀ {a b : Ex} {x y : D}, Pv cf B e a x → Pv cf B e b y → Pv cf B e (.tup (.cons a (.cons b .nil))) (.tup [x, y]) := fun ha hb => pv_tup (pvl_cons kB ha (pvl_cons kB hb pvl_nil)) (by show 2 ≤ 1000; decide)
        rw [pE]
        exact pv_tup (pvl_cons kB (two t0 t0123) (pvl_cons kB (two t1 t13) (pvl_cons kB (two t02 t012) (pvl_cons kB (two t012 t1) pvl_nil)))) (by show 4 ≤ 1000; decide)
      refine ss_cons (s_set ((dueE kC V5 atK).mono fun p hp => ?_))
      obtain ⟨dd, V6⟩ := p
      obtain ⟨e, g6⟩ := hp
      dsimp only at e g6 ⊢
      subst e
      have at6 := g6.at atK List.not_mem_nil
      have dd4 : ∀ (k : Nat) (S : Store), datL k S [.tup (pairsOf 3 [5, 7, 5, 2]), dTn [0, 1, 2, 3], dTn [1], dTn [0, 1, 2]] = some [.tuple ((closed 3 [5, 7, 5, 2]).map (ppair [5, 7, 5, 2])), pT [0, 1, 2, 3], pT [1], pT [0, 1, 2]] := fun k S => by
        have pairE : (closed 3 [5, 7, 5, 2]).map (pairD [5, 7, 5, 2]) = pairsOf 3 [5, 7, 5, 2] := rfl
        rw [← pairE]
        have dT : ∀ l : List Nat, dat k S (dTn l) = some (pT l) := fun l => dat_T
        simp only [datL, dat_tup (dat_pairs [5, 7, 5, 2] (closed 3 [5, 7, 5, 2])), dT]
      have ff4 : Fit (134145 * 4) 20 (.list [.tuple ((closed 3 [5, 7, 5, 2]).map (ppair [5, 7, 5, 2])), pT [0, 1, 2, 3], pT [1], pT [0, 1, 2]]) := by
        refine (fit_lst (b := 134144) (k := 3) fun x hx => ?_).mono (Nat.le_refl _) (by decide)
        simp only [List.mem_cons, List.not_mem_nil, or_false] at hx
        rcases hx with rfl | rfl | rfl | rfl
        · exact fit_pairs (by decide) (by decide)
        · exact (fit_T (by decide) (by decide)).mono (by decide) (by decide)
        · exact (fit_T (by decide) (by decide)).mono (by decide) (by decide)
        · exact (fit_T (by decide) (by decide)).mono (by decide) (by decide)
      refine ss_cons (s_ret ((pv_cmp kC (pv_reprR rfl (fun S b => b) dd4 ff4 (by decide)) (pv_repr (pvl_cons kC (pv_var rfl) (pvl_cons kC (pv_tup (ds := [dN 0, dN 1, dN 2, dN 3]) (pvl_cons kC (numC 0) (pvl_cons kC (numC 1) (pvl_cons kC (numC 2) (pvl_cons kC (numC 3) pvl_nil)))) (by show 4 ≤ 1000; decide)) (pvl_cons kC (pv_tup (ds := [dN 1]) (pvl_cons kC (numC 1) pvl_nil) (by show 1 ≤ 1000; decide)) (pvl_cons kC (pv_tup (ds := [dN 0, dN 1, dN 2]) (pvl_cons kC (numC 0) (pvl_cons kC (numC 1) (pvl_cons kC (numC 2) pvl_nil))) (by show 3 ≤ 1000; decide)) pvl_nil)))) dd4 ff4 (by decide) (by show 4 ≤ 1000; decide)) (c := true) (fun S => c_eqS rfl) V6 at6).mono fun p hp => hp.1))
end
end Prog

set_option Elab.async false
set_option linter.all false
set_option maxRecDepth 100000
set_option maxHeartbeats 8000000
namespace K22
open PySem PySem.Spec PyProof.Rows L2 Ev

def st (i : Nat) : Stmt := PySem.Challenge.pw_meetlots_k22_shared_and_closed_pairs_bot.main.body.getD i (.Pass ⟨0, 0, 0, 0⟩)
def bn : List Str := [("tuple" : Str), ("range" : Str), ("list" : Str), ("sum" : Str), ("int" : Str), ("sorted" : Str), ("len" : Str), ("repr" : Str), ("enumerate" : Str), ("abs" : Str)]
def kw : List (Str × Nat × List Str × List Nat) := [(("shared" : Str), 0, [("lot" : Str), ("table" : Str)], [1, 0]), (("is_meet" : Str), 0, [("lot" : Str), ("table" : Str)], [1, 0]), (("closed_pairs" : Str), 0, [("table" : Str)], [0]), (("meets" : Str), 0, [("table" : Str)], [0]), (("meet_of" : Str), 0, [("places" : Str), ("table" : Str)], [1, 0])]
/-- 0: mask_of(0 lot, 1 mask, 2 thing) -/
def i0 : Sxs := (.cons (.set (.nm 1) (.cst (.int 0))) (.cons (.for (.nm 2) (.ex (.var 0)) (.cons (.set (.nm 1) (.op .bor (.var 1) (.op .shl (.cst (.int 1)) (.var 2)))) .nil)) (.cons (.ret (.var 1)) .nil)))
/-- 1: lot_of(0 mask, 1 thing) -/
def i1 : Sxs := (.cons (.ret (.bi .tuple (.cons (.comp1 (.nm 1) (.rng1 (.bits (.var 0))) (.val (.op .band (.var 0) (.op .shl (.cst (.int 1)) (.var 1)))) (.var 1) [1]) .nil))) .nil)
/-- 2: is_in(0 part, 1 mask) -/
def i2 : Sxs := (.cons (.ret (.cmp .eq (.op .band (.var 0) (.var 1)) (.var 0))) .nil)
/-- 3: all_of(0 size) -/
def i3 : Sxs := (.cons (.ret (.op .sub (.op .shl (.cst (.int 1)) (.var 0)) (.cst (.int 1)))) .nil)
/-- 4: ordered_masks(0 size, 1 found, 2 level, 3 mask, 4 thing) -/
def i4 : Sxs := (.cons (.set (.nm 1) (.lst .nil)) (.cons (.set (.nm 2) (.lst (.cons (.cst (.int 0)) .nil))) (.cons (.whl 1000000 (.val (.var 2)) (.cons (.expr (.mt .extend (.var 1) (.cons (.var 2) .nil))) (.cons (.set (.nm 2) (.comp2 (.nm 3) (.ex (.var 2)) .yes (.nm 4) (.rng2 (.bits (.var 3)) (.var 0)) .yes (.op .bor (.var 3) (.op .shl (.cst (.int 1)) (.var 4))) [3, 4] [4])) .nil))) (.cons (.ret (.var 1)) .nil))))
/-- 5: least_meets(0 size, 1 rows, 2 found, 3 row, 4 thing, 5 bit, 6 mask) -/
def i5 : Sxs := (.cons (.set (.nm 2) (.op .mul (.lst (.cons (.call 3 (.cons (.var 0) .nil)) .nil)) (.op .shl (.cst (.int 1)) (.var 0)))) (.cons (.for (.nm 3) (.ex (.var 1)) (.cons (.seti (.var 2) (.var 3) (.var 3)) .nil)) (.cons (.for (.nm 4) (.rng1 (.var 0)) (.cons (.set (.nm 5) (.op .shl (.cst (.int 1)) (.var 4))) (.cons (.for (.nm 6) (.rng1 (.op .shl (.cst (.int 1)) (.var 0))) (.cons (.iff (.not (.val (.op .band (.var 6) (.var 5)))) (.cons (.seti (.var 2) (.var 6) (.op .band (.idx (.var 2) (.var 6)) (.idx (.var 2) (.op .add (.var 6) (.var 5))))) .nil) .nil) .nil)) .nil))) (.cons (.ret (.var 2)) .nil))))
/-- 6: fixed_lots(0 size, 1 found, 2 mask) -/
def i6 : Sxs := (.cons (.ret (.bi .tuple (.cons (.comp1 (.nm 2) (.ex (.call 4 (.cons (.var 0) .nil))) (.cmp .eq (.idx (.var 1) (.var 2)) (.var 2)) (.call 1 (.cons (.var 2) .nil)) [2]) .nil))) .nil)
/-- 7: meet(0 size, 1 lots, 2 mask, 3 lot) -/
def i7 : Sxs := (.cons (.set (.nm 2) (.call 3 (.cons (.var 0) .nil))) (.cons (.for (.nm 3) (.ex (.var 1)) (.cons (.set (.nm 2) (.op .band (.var 2) (.call 0 (.cons (.var 3) .nil)))) .nil)) (.cons (.ret (.call 1 (.cons (.var 2) .nil))) .nil)))
/-- 8: _all_meets(0 table, 1 size, 2 rows, 3 row) -/
def i8 : Sxs := (.cons (.set (.tp [1, 2]) (.var 0)) (.cons (.ret (.call 5 (.cons (.var 1) (.cons (.comp1 (.nm 3) (.ex (.var 2)) .yes (.call 0 (.cons (.var 3) .nil)) [3]) .nil)))) .nil))
/-- 9: meets(0 table) -/
def i9 : Sxs := (.cons (.ret (.call 6 (.cons (.idx (.var 0) (.cst (.int 0))) (.cons (.call 8 (.cons (.var 0) .nil)) .nil)))) .nil)
/-- 10: meet_of(0 table, 1 places, 2 size, 3 rows, 4 place) -/
def i10 : Sxs := (.cons (.set (.tp [2, 3]) (.var 0)) (.cons (.ret (.call 7 (.cons (.var 2) (.cons (.comp1 (.nm 4) (.ex (.var 1)) .yes (.idx (.var 3) (.var 4)) [4]) .nil)))) .nil))
/-- 11: _sharing(0 rows, 1 mask, 2 place, 3 row) -/
def i11 : Sxs := (.cons (.ret (.bi .tuple (.cons (.comp1 (.tp [2, 3]) (.enum (.var 0)) (.val (.call 2 (.cons (.var 1) (.cons (.var 3) .nil)))) (.var 2) [2, 3]) .nil))) .nil)
/-- 12: shared(0 table, 1 lot, 2 row) -/
def i12 : Sxs := (.cons (.ret (.call 11 (.cons (.comp1 (.nm 2) (.ex (.idx (.var 0) (.cst (.int 1)))) .yes (.call 0 (.cons (.var 2) .nil)) [2]) (.cons (.call 0 (.cons (.var 1) .nil)) .nil)))) .nil)
/-- 13: is_meet(0 table, 1 lot) -/
def i13 : Sxs := (.cons (.ret (.cmp .eq (.call 10 (.cons (.var 0) (.cons (.call 12 (.cons (.var 0) (.cons (.var 1) .nil))) .nil))) (.var 1))) .nil)
/-- 14: closed_pairs(0 table, 1 rows, 2 row, 3 lot) -/
def i14 : Sxs := (.cons (.set (.nm 1) (.comp1 (.nm 2) (.ex (.idx (.var 0) (.cst (.int 1)))) .yes (.call 0 (.cons (.var 2) .nil)) [2])) (.cons (.ret (.bi .tuple (.cons (.comp1 (.nm 3) (.ex (.call 9 (.cons (.var 0) .nil))) .yes (.tup (.cons (.var 3) (.cons (.call 11 (.cons (.var 1) (.cons (.call 0 (.cons (.var 3) .nil)) .nil))) .nil))) [3]) .nil))) .nil))
/-- 15: _law_spring(0 _law_script, 1 _law_known, 2 _law_cell) -/
def i15 : Sxs := (.cons (.set (.nm 1) (.comp1 (.nm 2) (.ex (.sli (.var 0) .none (.some (.cst (.int 63))))) .yes (.op .add (.op .mul (.cst (.int 2)) (.bi .abs (.cons (.var 2) .nil))) (.bi .int (.cons (.cmp .lt (.var 2) (.cst (.int 0))) .nil))) [2])) (.cons (.ret (.lst (.cons (.comp1 (.nm 2) (.ex (.var 1)) (.cmp .ge (.var 2) (.op .pow (.cst (.int 10)) (.cst (.int 18)))) (.var 2) [2]) (.cons (.op .add (.var 1) (.lst (.cons (.op .add (.bi .len (.cons (.var 1) .nil)) (.cst (.int 41))) .nil))) (.cons (.bi .sum (.cons (.var 1) .nil)) (.cons (.cst (.int 0)) .nil)))))) .nil))
/-- 16: _law_draw(0 _law_spring_here, 1 _law_many, 2 _law_great, 3 _law_turn, 4 _law_cell, 5 _law_mixed) -/
def i16 : Sxs := (.cons (.set (.nm 2) (.idx (.var 0) (.cst (.int 0)))) (.cons (.iff (.cmp .ne (.var 2) (.lst .nil)) (.cons (.set (.nm 4) (.mt .pop (.var 2) .nil)) (.cons (.iff (.cmp .ge (.var 4) (.var 1)) (.cons (.expr (.mt .append (.var 2) (.cons (.op .fdiv (.var 4) (.var 1)) .nil))) .nil) .nil) (.cons (.ret (.op .mod (.bi .int (.cons (.var 4) .nil)) (.var 1))) .nil))) .nil) (.cons (.seti (.var 0) (.cst (.int 3)) (.op .add (.idx (.var 0) (.cst (.int 3))) (.cst (.int 1)))) (.cons (.set (.nm 3) (.idx (.var 0) (.cst (.int 3)))) (.cons (.set (.nm 4) (.idx (.idx (.var 0) (.cst (.int 1))) (.op .mod (.bi .int (.cons (.var 3) .nil)) (.bi .len (.cons (.idx (.var 0) (.cst (.int 1))) .nil))))) (.cons (.set (.nm 5) (.op .mod (.bi .int (.cons (.op .add (.op .add (.op .mul (.var 4) (.cst (.int 48611))) (.op .mul (.idx (.var 0) (.cst (.int 2))) (.cst (.int 7907)))) (.op .mul (.var 3) (.cst (.int 1299709)))) .nil)) (.cst (.int 2147483647)))) (.cons (.set (.nm 5) (.op .mod (.bi .int (.cons (.op .add (.op .add (.op .mul (.var 5) (.var 5)) (.op .mul (.var 3) (.cst (.int 15485863)))) (.cst (.int 5))) .nil)) (.cst (.int 2147483629)))) (.cons (.set (.nm 5) (.op .mod (.bi .int (.cons (.op .add (.op .add (.op .mul (.var 5) (.var 5)) (.var 4)) (.cst (.int 3))) .nil)) (.cst (.int 2147483587)))) (.cons (.ret (.op .mod (.bi .int (.cons (.op .fdiv (.var 5) (.cst (.int 1024))) .nil)) (.var 1))) .nil)))))))))
/-- 17: _law_pick(0 _law_spring_here, 1 _law_items) -/
def i17 : Sxs := (.cons (.ret (.idx (.var 1) (.call 16 (.cons (.var 0) (.cons (.bi .len (.cons (.var 1) .nil)) .nil))))) .nil)
/-- 18: _law_some(0 _law_spring_here, 1 _law_wide, 2 _law_many, 3 _law_mask, 4 _law_turn) -/
def i18 : Sxs := (.cons (.set (.nm 3) (.cst (.int 0))) (.cons (.for (.nm 4) (.rng1 (.ite (.cmp .gt (.var 1) (.cst (.int 0))) (.var 2) (.cst (.int 0)))) (.cons (.set (.nm 3) (.op .bor (.var 3) (.op .shl (.cst (.int 1)) (.call 16 (.cons (.var 0) (.cons (.var 1) .nil)))))) .nil)) (.cons (.ret (.var 3)) .nil)))
/-- 19: _law_lot(0 _law_mask, 1 _law_one) -/
def i19 : Sxs := (.cons (.ret (.bi .tuple (.cons (.comp1 (.nm 1) (.rng1 (.cst (.int 10))) (.cmp .eq (.op .band (.op .shr (.var 0) (.var 1)) (.cst (.int 1))) (.cst (.int 1))) (.var 1) [1]) .nil))) .nil)
/-- 20: _law_rows(0 _law_spring_here, 1 _law_wide, 2 _law_many, 3 _law_turn, 4 _law_found, 5 _law_way, 6 _law_full, 7 _law_kind, 8 _law_mask) -/
def i20 : Sxs := (.cons (.par [4, 5, 6] (.cons (.lst .nil) (.cons (.call 16 (.cons (.var 0) (.cons (.cst (.int 6)) .nil))) (.cons (.op .sub (.op .shl (.cst (.int 1)) (.var 1)) (.cst (.int 1))) .nil)))) (.cons (.for (.nm 3) (.rng1 (.var 2)) (.cons (.par [7, 8] (.cons (.call 16 (.cons (.var 0) (.cons (.cst (.int 10)) .nil))) (.cons (.call 16 (.cons (.var 0) (.cons (.op .shl (.cst (.int 1)) (.var 1)) .nil))) .nil))) (.cons (.iff (.or (.cmp .eq (.var 5) (.cst (.int 0))) (.cmp .eq (.var 7) (.cst (.int 0)))) (.cons (.set (.nm 8) (.call 18 (.cons (.var 0) (.cons (.var 1) (.cons (.cst (.int 2)) .nil))))) .nil) .nil) (.cons (.iff (.or (.cmp .eq (.var 5) (.cst (.int 1))) (.cmp .eq (.var 7) (.cst (.int 1)))) (.cons (.set (.nm 8) (.op .sub (.var 6) (.call 18 (.cons (.var 0) (.cons (.var 1) (.cons (.cst (.int 2)) .nil)))))) .nil) .nil) (.cons (.iff (.and (.cmp .eq (.var 7) (.cst (.int 2))) (.cmp .ne (.var 4) (.lst .nil))) (.cons (.set (.nm 8) (.call 17 (.cons (.var 0) (.cons (.var 4) .nil)))) .nil) .nil) (.cons (.iff (.and (.cmp .eq (.var 7) (.cst (.int 3))) (.cmp .ne (.var 4) (.lst .nil))) (.cons (.set (.nm 8) (.op .band (.call 17 (.cons (.var 0) (.cons (.var 4) .nil))) (.call 17 (.cons (.var 0) (.cons (.var 4) .nil))))) .nil) .nil) (.cons (.iff (.cmp .eq (.var 7) (.cst (.int 4))) (.cons (.set (.nm 8) (.call 17 (.cons (.var 0) (.cons (.lst (.cons (.var 6) (.cons (.var 6) (.cons (.cst (.int 0)) .nil)))) .nil)))) .nil) .nil) (.cons (.expr (.mt .append (.var 4) (.cons (.var 8) .nil))) .nil)))))))) (.cons (.ret (.var 4)) .nil)))
/-- 21: _law_sheet(0 _law_wide, 1 _law_masks, 2 _law_mask) -/
def i21 : Sxs := (.cons (.ret (.tup (.cons (.var 0) (.cons (.bi .tuple (.cons (.comp1 (.nm 2) (.ex (.var 1)) .yes (.call 19 (.cons (.var 2) .nil)) [2]) .nil)) .nil)))) .nil)
/-- 22: _law_having(0 _law_masks, 1 _law_mask, 2 _law_at, 3 _law_row) -/
def i22 : Sxs := (.cons (.ret (.bi .tuple (.cons (.comp1 (.tp [2, 3]) (.enum (.var 0)) (.cmp .eq (.op .band (.var 3) (.var 1)) (.var 1)) (.var 2) [2, 3]) .nil))) .nil)
/-- 23: _law_common(0 _law_wide, 1 _law_masks, 2 _law_spots, 3 _law_found, 4 _law_at) -/
def i23 : Sxs := (.cons (.set (.nm 3) (.op .sub (.op .shl (.cst (.int 1)) (.var 0)) (.cst (.int 1)))) (.cons (.for (.nm 4) (.ex (.var 2)) (.cons (.set (.nm 3) (.op .band (.var 3) (.idx (.var 1) (.var 4)))) .nil)) (.cons (.ret (.var 3)) .nil)))
/-- 24: _law_by_lots(0 _law_wide, 1 _law_masks, 2 _law_found, 3 _law_mask, 4 _law_spots) -/
def i24 : Sxs := (.cons (.set (.nm 2) (.lst .nil)) (.cons (.for (.nm 3) (.rng1 (.op .shl (.cst (.int 1)) (.var 0))) (.cons (.set (.nm 4) (.call 22 (.cons (.var 1) (.cons (.var 3) .nil)))) (.cons (.iff (.cmp .eq (.call 23 (.cons (.var 0) (.cons (.var 1) (.cons (.var 4) .nil)))) (.var 3)) (.cons (.expr (.mt .append (.var 2) (.cons (.tup (.cons (.call 19 (.cons (.var 3) .nil)) (.cons (.var 4) .nil))) .nil))) .nil) .nil) .nil))) (.cons (.ret (.bi .tuple (.cons (.sortK 26 (.var 2)) .nil))) .nil)))
/-- 25: _law_by_places(0 _law_wide, 1 _law_masks, 2 _law_found, 3 _law_choice, 4 _law_spots, 5 _law_mask, 6 _law_at) -/
def i25 : Sxs := (.cons (.set (.nm 2) (.lst .nil)) (.cons (.for (.nm 3) (.rng1 (.op .shl (.cst (.int 1)) (.bi .len (.cons (.var 1) .nil)))) (.cons (.set (.nm 4) (.bi .tuple (.cons (.comp1 (.nm 6) (.rng1 (.bi .len (.cons (.var 1) .nil))) (.cmp .eq (.op .band (.op .shr (.var 3) (.var 6)) (.cst (.int 1))) (.cst (.int 1))) (.var 6) [6]) .nil))) (.cons (.set (.nm 5) (.call 23 (.cons (.var 0) (.cons (.var 1) (.cons (.var 4) .nil))))) (.cons (.iff (.cmp .eq (.call 22 (.cons (.var 1) (.cons (.var 5) .nil))) (.var 4)) (.cons (.expr (.mt .append (.var 2) (.cons (.tup (.cons (.call 19 (.cons (.var 5) .nil)) (.cons (.var 4) .nil))) .nil))) .nil) .nil) .nil)))) (.cons (.ret (.bi .tuple (.cons (.sortK 26 (.var 2)) .nil))) .nil)))
/-- 26: _law_pair_rank(0 _law_pair) -/
def i26 : Sxs := (.cons (.ret (.tup (.cons (.bi .len (.cons (.idx (.var 0) (.cst (.int 0))) .nil)) (.cons (.idx (.var 0) (.cst (.int 0))) .nil)))) .nil)
/-- 27: _law_by_asking(0 _law_sheet_here, 1 _law_masks, 2 _law_asked, 3 _law_wide, 4 _law_mask, 5 _law_least, 6 _law_told, 7 _law_own, 8 _law_spots) -/
def i27 : Sxs := (.cons (.set (.nm 3) (.idx (.var 0) (.cst (.int 0)))) (.cons (.for (.nm 4) (.ex (.var 2)) (.cons (.par [7, 8] (.cons (.call 19 (.cons (.var 4) .nil)) (.cons (.call 22 (.cons (.var 1) (.cons (.var 4) .nil))) .nil))) (.cons (.set (.nm 5) (.call 19 (.cons (.call 23 (.cons (.var 3) (.cons (.var 1) (.cons (.var 8) .nil)))) .nil))) (.cons (.set (.nm 6) (.lst (.cons (.call 12 (.cons (.var 0) (.cons (.var 7) .nil))) (.cons (.callP 12 .nil (.cons (.var 7) (.cons (.var 0) .nil)) [1, 0]) (.cons (.call 10 (.cons (.var 0) (.cons (.var 8) .nil))) (.cons (.call 12 (.cons (.var 0) (.cons (.var 5) .nil))) .nil)))))) (.cons (.set (.nm 6) (.op .add (.var 6) (.lst (.cons (.call 13 (.cons (.var 0) (.cons (.var 7) .nil))) (.cons (.callP 13 .nil (.cons (.var 5) (.cons (.var 0) .nil)) [1, 0]) .nil))))) (.cons (.iff (.cmp .ne (.bi .repr (.cons (.var 6) .nil)) (.bi .repr (.cons (.lst (.cons (.var 8) (.cons (.var 8) (.cons (.var 5) (.cons (.var 8) (.cons (.cmp .eq (.var 7) (.var 5)) (.cons (.cst (.bl true)) .nil))))))) .nil))) (.cons (.ret (.cst (.bl false))) .nil) .nil) .nil)))))) (.cons (.ret (.cst (.bl true))) .nil)))
/-- 28: _law_by_choice(0 _law_spring_here, 1 _law_sheet_here, 2 _law_masks, 3 _law_turn, 4 _law_spots, 5 _law_due, 6 _law_at) -/
def i28 : Sxs := (.cons (.for (.nm 3) (.rng1 (.cst (.int 4))) (.cons (.set (.nm 4) (.bi .tuple (.cons (.comp1 (.nm 6) (.rng1 (.bi .len (.cons (.var 2) .nil))) (.cmp .eq (.call 16 (.cons (.var 0) (.cons (.op .add (.cst (.int 2)) (.var 3)) .nil))) (.cst (.int 0))) (.var 6) [6]) .nil))) (.cons (.set (.nm 5) (.call 19 (.cons (.call 23 (.cons (.idx (.var 1) (.cst (.int 0))) (.cons (.var 2) (.cons (.var 4) .nil)))) .nil))) (.cons (.iff (.cmp .ne (.bi .repr (.cons (.lst (.cons (.call 10 (.cons (.var 1) (.cons (.var 4) .nil))) (.cons (.callP 10 .nil (.cons (.var 4) (.cons (.var 1) .nil)) [1, 0]) .nil))) .nil)) (.bi .repr (.cons (.lst (.cons (.var 5) (.cons (.var 5) .nil))) .nil))) (.cons (.ret (.cst (.bl false))) .nil) .nil) .nil)))) (.cons (.ret (.cst (.bl true))) .nil))
/-- 29: _law_by_turning(0 _law_wide, 1 _law_masks, 2 _law_due, 3 _law_turned, 4 _law_pairs, 5 _law_told, 6 _law_at, 7 _law_one, 8 _law_own, 9 _law_spots) -/
def i29 : Sxs := (.cons (.set (.nm 3) (.tup (.cons (.bi .len (.cons (.var 1) .nil)) (.cons (.bi .tuple (.cons (.comp1 (.nm 7) (.rng1 (.var 0)) .yes (.call 22 (.cons (.var 1) (.cons (.op .shl (.cst (.int 1)) (.var 7)) .nil))) [7]) .nil)) .nil)))) (.cons (.set (.nm 4) (.bi .tuple (.cons (.sortK 26 (.comp1 (.tp [8, 9]) (.ex (.var 2)) .yes (.tup (.cons (.var 9) (.cons (.var 8) .nil))) [8, 9])) .nil))) (.cons (.set (.nm 5) (.lst (.cons (.call 14 (.cons (.var 3) .nil)) (.cons (.call 9 (.cons (.var 3) .nil)) (.cons (.call 12 (.cons (.var 3) (.cons (.tup .nil) .nil))) .nil))))) (.cons (.iff (.cmp .ne (.bi .repr (.cons (.var 5) .nil)) (.bi .repr (.cons (.lst (.cons (.var 4) (.cons (.bi .tuple (.cons (.comp1 (.tp [9, 8]) (.ex (.var 4)) .yes (.var 9) [9, 8]) .nil)) (.cons (.tupRng (.var 0)) .nil)))) .nil))) (.cons (.ret (.cst (.bl false))) .nil) .nil) (.cons (.for (.nm 6) (.rng1 (.bi .len (.cons (.var 1) .nil))) (.cons (.iff (.cmp .ne (.bi .repr (.cons (.call 12 (.cons (.var 3) (.cons (.tup (.cons (.var 6) .nil)) .nil))) .nil)) (.bi .repr (.cons (.call 19 (.cons (.idx (.var 1) (.var 6)) .nil)) .nil))) (.cons (.ret (.cst (.bl false))) .nil) .nil) .nil)) (.cons (.ret (.cst (.bl true))) .nil))))))
/-- 30: _law_is_right(0 _law_spring_here, 1 _law_wide, 2 _law_masks, 3 _law_due, 4 _law_sheet_here, 5 _law_asked, 6 _law_own, 7 _law_spots, 8 _law_turn) -/
def i30 : Sxs := (.cons (.set (.nm 4) (.call 21 (.cons (.var 1) (.cons (.var 2) .nil)))) (.cons (.iff (.cmp .ne (.bi .repr (.cons (.lst (.cons (.call 14 (.cons (.var 4) .nil)) (.cons (.callP 14 .nil (.cons (.var 4) .nil) [0]) .nil))) .nil)) (.bi .repr (.cons (.lst (.cons (.var 3) (.cons (.var 3) .nil))) .nil))) (.cons (.ret (.cst (.bl false))) .nil) .nil) (.cons (.for (.tp [6, 7]) (.ex (.var 3)) (.cons (.iff (.cmp .ne (.bi .repr (.cons (.lst (.cons (.call 12 (.cons (.var 4) (.cons (.var 6) .nil))) (.cons (.call 10 (.cons (.var 4) (.cons (.var 7) .nil))) .nil))) .nil)) (.bi .repr (.cons (.lst (.cons (.var 7) (.cons (.var 6) .nil))) .nil))) (.cons (.ret (.cst (.bl false))) .nil) .nil) .nil)) (.cons (.set (.nm 5) (.listRng (.op .shl (.cst (.int 1)) (.var 1)))) (.cons (.iff (.cmp .gt (.var 1) (.cst (.int 5))) (.cons (.set (.nm 5) (.op .add (.lst (.cons (.cst (.int 0)) (.cons (.op .sub (.op .shl (.cst (.int 1)) (.var 1)) (.cst (.int 1))) .nil))) (.comp1 (.nm 8) (.rng1 (.cst (.int 6))) .yes (.call 16 (.cons (.var 0) (.cons (.op .shl (.cst (.int 1)) (.var 1)) .nil))) [8]))) (.cons (.set (.nm 5) (.op .add (.var 5) (.comp1 (.nm 8) (.rng1 (.cst (.int 6))) .yes (.call 18 (.cons (.var 0) (.cons (.var 1) (.cons (.cst (.int 3)) .nil)))) [8]))) .nil)) .nil) (.cons (.iff (.or (.not (.val (.call 27 (.cons (.var 4) (.cons (.var 2) (.cons (.var 5) .nil)))))) (.not (.val (.call 28 (.cons (.var 0) (.cons (.var 4) (.cons (.var 2) .nil))))))) (.cons (.ret (.cst (.bl false))) .nil) .nil) (.cons (.iff (.and (.cmp .lt (.bi .len (.cons (.var 2) .nil)) (.cst (.int 11))) (.not (.val (.call 29 (.cons (.var 1) (.cons (.var 2) (.cons (.var 3) .nil))))))) (.cons (.ret (.cst (.bl false))) .nil) .nil) (.cons (.ret (.cmp .eq (.bi .repr (.cons (.lst (.cons (.callP 9 .nil (.cons (.var 4) .nil) [0]) (.cons (.call 14 (.cons (.var 4) .nil)) .nil))) .nil)) (.bi .repr (.cons (.lst (.cons (.bi .tuple (.cons (.comp1 (.tp [6, 7]) (.ex (.var 3)) .yes (.var 6) [6, 7]) .nil)) (.cons (.var 3) .nil))) .nil)))) .nil))))))))
/-- 31: law(0 _law_script, 1 _law_spring_here, 2 _law_turn, 3 _law_masks, 4 _law_sheet_here, 5 _law_found, 6 _law_due, 7 _law_wide, 8 _law_one) -/
def i31 : Sxs := (.cons (.set (.nm 1) (.call 15 (.cons (.var 0) .nil))) (.cons (.for (.nm 2) (.rng1 (.cst (.int 3))) (.cons (.set (.nm 7) (.call 17 (.cons (.var 1) (.cons (.lst (.cons (.cst (.int 2)) (.cons (.cst (.int 3)) (.cons (.cst (.int 4)) (.cons (.cst (.int 6)) (.cons (.cst (.int 8)) (.cons (.cst (.int 10)) (.cons (.cst (.int 10)) .nil)))))))) .nil)))) (.cons (.set (.nm 3) (.call 20 (.cons (.var 1) (.cons (.var 7) (.cons (.call 17 (.cons (.var 1) (.cons (.lst (.cons (.cst (.int 0)) (.cons (.cst (.int 1)) (.cons (.cst (.int 2)) (.cons (.cst (.int 3)) (.cons (.cst (.int 4)) (.cons (.cst (.int 5)) (.cons (.cst (.int 6)) (.cons (.cst (.int 6)) .nil))))))))) .nil))) .nil))))) (.cons (.iff (.not (.val (.call 30 (.cons (.var 1) (.cons (.var 7) (.cons (.var 3) (.cons (.call 25 (.cons (.var 7) (.cons (.var 3) .nil))) .nil))))))) (.cons (.ret (.cst (.bl false))) .nil) .nil) .nil)))) (.cons (.for (.nm 2) (.rng1 (.cst (.int 2))) (.cons (.set (.nm 7) (.call 16 (.cons (.var 1) (.cons (.cst (.int 6)) .nil)))) (.cons (.set (.nm 3) (.call 20 (.cons (.var 1) (.cons (.var 7) (.cons (.call 17 (.cons (.var 1) (.cons (.ite (.cmp .eq (.var 2) (.cst (.int 0))) (.lst (.cons (.cst (.int 7)) (.cons (.cst (.int 10)) (.cons (.cst (.int 10)) (.cons (.cst (.int 25)) (.cons (.cst (.int 60)) .nil)))))) (.lst (.cons (.cst (.int 2)) (.cons (.cst (.int 5)) (.cons (.cst (.int 8)) (.cons (.cst (.int 10)) .nil)))))) .nil))) .nil))))) (.cons (.iff (.not (.val (.call 30 (.cons (.var 1) (.cons (.var 7) (.cons (.var 3) (.cons (.call 24 (.cons (.var 7) (.cons (.var 3) .nil))) .nil))))))) (.cons (.ret (.cst (.bl false))) .nil) .nil) .nil)))) (.cons (.set (.nm 3) (.comp1 (.nm 8) (.rng1 (.cst (.int 7))) .yes (.op .sub (.cst (.int 127)) (.op .bor (.op .shl (.cst (.int 1)) (.var 8)) (.op .shl (.cst (.int 1)) (.call 16 (.cons (.var 1) (.cons (.cst (.int 7)) .nil)))))) [8])) (.cons (.iff (.cmp .eq (.call 16 (.cons (.var 1) (.cons (.cst (.int 2)) .nil))) (.cst (.int 0))) (.cons (.set (.nm 3) (.op .add (.comp1 (.nm 8) (.rng1 (.cst (.int 7))) .yes (.op .sub (.cst (.int 127)) (.op .shl (.cst (.int 1)) (.var 8))) [8]) (.lst (.cons (.op .sub (.cst (.int 127)) (.op .shl (.cst (.int 1)) (.call 16 (.cons (.var 1) (.cons (.cst (.int 7)) .nil))))) .nil)))) .nil) .nil) (.cons (.iff (.not (.val (.call 30 (.cons (.var 1) (.cons (.cst (.int 7)) (.cons (.var 3) (.cons (.call 24 (.cons (.cst (.int 7)) (.cons (.var 3) .nil))) .nil))))))) (.cons (.ret (.cst (.bl false))) .nil) .nil) (.cons (.set (.nm 4) (.tup (.cons (.cst (.int 3)) (.cons (.tup (.cons (.tup (.cons (.cst (.int 0)) (.cons (.cst (.int 2)) .nil))) (.cons (.tup (.cons (.cst (.int 0)) (.cons (.cst (.int 1)) (.cons (.cst (.int 2)) .nil)))) (.cons (.tup (.cons (.cst (.int 0)) (.cons (.cst (.int 2)) .nil))) (.cons (.tup (.cons (.cst (.int 1)) .nil)) .nil))))) .nil)))) (.cons (.set (.nm 5) (.lst (.cons (.call 14 (.cons (.var 4) .nil)) (.cons (.call 12 (.cons (.var 4) (.cons (.tup .nil) .nil))) (.cons (.call 12 (.cons (.var 4) (.cons (.tup (.cons (.cst (.int 0)) (.cons (.cst (.int 1)) .nil))) .nil))) (.cons (.call 12 (.cons (.var 4) (.cons (.tup (.cons (.cst (.int 2)) .nil)) .nil))) .nil)))))) (.cons (.set (.nm 6) (.tup (.cons (.tup (.cons (.tup .nil) (.cons (.tup (.cons (.cst (.int 0)) (.cons (.cst (.int 1)) (.cons (.cst (.int 2)) (.cons (.cst (.int 3)) .nil))))) .nil))) (.cons (.tup (.cons (.tup (.cons (.cst (.int 1)) .nil)) (.cons (.tup (.cons (.cst (.int 1)) (.cons (.cst (.int 3)) .nil))) .nil))) (.cons (.tup (.cons (.tup (.cons (.cst (.int 0)) (.cons (.cst (.int 2)) .nil))) (.cons (.tup (.cons (.cst (.int 0)) (.cons (.cst (.int 1)) (.cons (.cst (.int 2)) .nil)))) .nil))) (.cons (.tup (.cons (.tup (.cons (.cst (.int 0)) (.cons (.cst (.int 1)) (.cons (.cst (.int 2)) .nil)))) (.cons (.tup (.cons (.cst (.int 1)) .nil)) .nil))) .nil)))))) (.cons (.ret (.cmp .eq (.bi .repr (.cons (.var 5) .nil)) (.bi .repr (.cons (.lst (.cons (.var 6) (.cons (.tup (.cons (.cst (.int 0)) (.cons (.cst (.int 1)) (.cons (.cst (.int 2)) (.cons (.cst (.int 3)) .nil))))) (.cons (.tup (.cons (.cst (.int 1)) .nil)) (.cons (.tup (.cons (.cst (.int 0)) (.cons (.cst (.int 1)) (.cons (.cst (.int 2)) .nil)))) .nil))))) .nil)))) .nil))))))))))
def es : List En := [
  ⟨("mask_of" : Str), st 1, [("lot" : Str), ("mask" : Str), ("thing" : Str)], [("lot" : Str)], i0⟩,
  ⟨("lot_of" : Str), st 2, [("mask" : Str), ("thing" : Str)], [("mask" : Str)], i1⟩,
  ⟨("is_in" : Str), st 3, [("part" : Str), ("mask" : Str)], [("part" : Str), ("mask" : Str)], i2⟩,
  ⟨("all_of" : Str), st 4, [("size" : Str)], [("size" : Str)], i3⟩,
  ⟨("ordered_masks" : Str), st 5, [("size" : Str), ("found" : Str), ("level" : Str), ("mask" : Str), ("thing" : Str)], [("size" : Str)], i4⟩,
  ⟨("least_meets" : Str), st 6, [("size" : Str), ("rows" : Str), ("found" : Str), ("row" : Str), ("thing" : Str), ("bit" : Str), ("mask" : Str)], [("size" : Str), ("rows" : Str)], i5⟩,
  ⟨("fixed_lots" : Str), st 7, [("size" : Str), ("found" : Str), ("mask" : Str)], [("size" : Str), ("found" : Str)], i6⟩,
  ⟨("meet" : Str), st 9, [("size" : Str), ("lots" : Str), ("mask" : Str), ("lot" : Str)], [("size" : Str), ("lots" : Str)], i7⟩,
  ⟨("_all_meets" : Str), st 11, [("table" : Str), ("size" : Str), ("rows" : Str), ("row" : Str)], [("table" : Str)], i8⟩,
  ⟨("meets" : Str), st 12, [("table" : Str)], [("table" : Str)], i9⟩,
  ⟨("meet_of" : Str), st 13, [("table" : Str), ("places" : Str), ("size" : Str), ("rows" : Str), ("place" : Str)], [("table" : Str), ("places" : Str)], i10⟩,
  ⟨("_sharing" : Str), st 14, [("rows" : Str), ("mask" : Str), ("place" : Str), ("row" : Str)], [("rows" : Str), ("mask" : Str)], i11⟩,
  ⟨("shared" : Str), st 15, [("table" : Str), ("lot" : Str), ("row" : Str)], [("table" : Str), ("lot" : Str)], i12⟩,
  ⟨("is_meet" : Str), st 16, [("table" : Str), ("lot" : Str)], [("table" : Str), ("lot" : Str)], i13⟩,
  ⟨("closed_pairs" : Str), st 17, [("table" : Str), ("rows" : Str), ("row" : Str), ("lot" : Str)], [("table" : Str)], i14⟩,
  ⟨("_law_spring" : Str), st 19, [("_law_script" : Str), ("_law_known" : Str), ("_law_cell" : Str)], [("_law_script" : Str)], i15⟩,
  ⟨("_law_draw" : Str), st 20, [("_law_spring_here" : Str), ("_law_many" : Str), ("_law_great" : Str), ("_law_turn" : Str), ("_law_cell" : Str), ("_law_mixed" : Str)], [("_law_spring_here" : Str), ("_law_many" : Str)], i16⟩,
  ⟨("_law_pick" : Str), st 21, [("_law_spring_here" : Str), ("_law_items" : Str)], [("_law_spring_here" : Str), ("_law_items" : Str)], i17⟩,
  ⟨("_law_some" : Str), st 22, [("_law_spring_here" : Str), ("_law_wide" : Str), ("_law_many" : Str), ("_law_mask" : Str), ("_law_turn" : Str)], [("_law_spring_here" : Str), ("_law_wide" : Str), ("_law_many" : Str)], i18⟩,
  ⟨("_law_lot" : Str), st 23, [("_law_mask" : Str), ("_law_one" : Str)], [("_law_mask" : Str)], i19⟩,
  ⟨("_law_rows" : Str), st 24, [("_law_spring_here" : Str), ("_law_wide" : Str), ("_law_many" : Str), ("_law_turn" : Str), ("_law_found" : Str), ("_law_way" : Str), ("_law_full" : Str), ("_law_kind" : Str), ("_law_mask" : Str)], [("_law_spring_here" : Str), ("_law_wide" : Str), ("_law_many" : Str)], i20⟩,
  ⟨("_law_sheet" : Str), st 25, [("_law_wide" : Str), ("_law_masks" : Str), ("_law_mask" : Str)], [("_law_wide" : Str), ("_law_masks" : Str)], i21⟩,
  ⟨("_law_having" : Str), st 26, [("_law_masks" : Str), ("_law_mask" : Str), ("_law_at" : Str), ("_law_row" : Str)], [("_law_masks" : Str), ("_law_mask" : Str)], i22⟩,
  ⟨("_law_common" : Str), st 27, [("_law_wide" : Str), ("_law_masks" : Str), ("_law_spots" : Str), ("_law_found" : Str), ("_law_at" : Str)], [("_law_wide" : Str), ("_law_masks" : Str), ("_law_spots" : Str)], i23⟩,
  ⟨("_law_by_lots" : Str), st 28, [("_law_wide" : Str), ("_law_masks" : Str), ("_law_found" : Str), ("_law_mask" : Str), ("_law_spots" : Str)], [("_law_wide" : Str), ("_law_masks" : Str)], i24⟩,
  ⟨("_law_by_places" : Str), st 29, [("_law_wide" : Str), ("_law_masks" : Str), ("_law_found" : Str), ("_law_choice" : Str), ("_law_spots" : Str), ("_law_mask" : Str), ("_law_at" : Str)], [("_law_wide" : Str), ("_law_masks" : Str)], i25⟩,
  ⟨("_law_pair_rank" : Str), st 30, [("_law_pair" : Str)], [("_law_pair" : Str)], i26⟩,
  ⟨("_law_by_asking" : Str), st 31, [("_law_sheet_here" : Str), ("_law_masks" : Str), ("_law_asked" : Str), ("_law_wide" : Str), ("_law_mask" : Str), ("_law_least" : Str), ("_law_told" : Str), ("_law_own" : Str), ("_law_spots" : Str)], [("_law_sheet_here" : Str), ("_law_masks" : Str), ("_law_asked" : Str)], i27⟩,
  ⟨("_law_by_choice" : Str), st 32, [("_law_spring_here" : Str), ("_law_sheet_here" : Str), ("_law_masks" : Str), ("_law_turn" : Str), ("_law_spots" : Str), ("_law_due" : Str), ("_law_at" : Str)], [("_law_spring_here" : Str), ("_law_sheet_here" : Str), ("_law_masks" : Str)], i28⟩,
  ⟨("_law_by_turning" : Str), st 33, [("_law_wide" : Str), ("_law_masks" : Str), ("_law_due" : Str), ("_law_turned" : Str), ("_law_pairs" : Str), ("_law_told" : Str), ("_law_at" : Str), ("_law_one" : Str), ("_law_own" : Str), ("_law_spots" : Str)], [("_law_wide" : Str), ("_law_masks" : Str), ("_law_due" : Str)], i29⟩,
  ⟨("_law_is_right" : Str), st 34, [("_law_spring_here" : Str), ("_law_wide" : Str), ("_law_masks" : Str), ("_law_due" : Str), ("_law_sheet_here" : Str), ("_law_asked" : Str), ("_law_own" : Str), ("_law_spots" : Str), ("_law_turn" : Str)], [("_law_spring_here" : Str), ("_law_wide" : Str), ("_law_masks" : Str), ("_law_due" : Str)], i30⟩,
  ⟨("law" : Str), st 35, [("_law_script" : Str), ("_law_spring_here" : Str), ("_law_turn" : Str), ("_law_masks" : Str), ("_law_sheet_here" : Str), ("_law_found" : Str), ("_law_due" : Str), ("_law_wide" : Str), ("_law_one" : Str)], [("_law_script" : Str)], i31⟩]
theorem s0 : FnScope [("lot" : Str), ("mask" : Str), ("thing" : Str)] [("lot" : Str)] (defScope (st 1)) := ⟨rfl, rfl, rfl, by decide +kernel, rfl, by decide +kernel, by decide +kernel⟩
theorem c0 : cSs 100 (ccOf es bn kw ⟨("mask_of" : Str), st 1, [("lot" : Str), ("mask" : Str), ("thing" : Str)], [("lot" : Str)], i0⟩) (defBody (st 1)) = some i0 := by kernel_rfl
theorem p0 : PosOk ("mask_of" : Str) (st 1) [("lot" : Str)] := fun _ _ _ _ _ _ us hl => match us, hl with | [_], _ => rfl
theorem k0 : ∀ q, q ∈ kw.filter (fun q => decide (q.1 = ("mask_of" : Str))) → KwOk ("mask_of" : Str) (st 1) [("lot" : Str)] q.2.1 q.2.2.1 q.2.2.2 ∧ [("lot" : Str)] ≠ [] := by
  have e : kw.filter (fun q => decide (q.1 = ("mask_of" : Str))) = [] := by decide +kernel
  rw [e]
  exact in_nil
theorem s1 : FnScope [("mask" : Str), ("thing" : Str)] [("mask" : Str)] (defScope (st 2)) := ⟨rfl, rfl, rfl, by decide +kernel, rfl, by decide +kernel, by decide +kernel⟩
theorem c1 : cSs 100 (ccOf es bn kw ⟨("lot_of" : Str), st 2, [("mask" : Str), ("thing" : Str)], [("mask" : Str)], i1⟩) (defBody (st 2)) = some i1 := by kernel_rfl
theorem p1 : PosOk ("lot_of" : Str) (st 2) [("mask" : Str)] := fun _ _ _ _ _ _ us hl => match us, hl with | [_], _ => rfl
theorem k1 : ∀ q, q ∈ kw.filter (fun q => decide (q.1 = ("lot_of" : Str))) → KwOk ("lot_of" : Str) (st 2) [("mask" : Str)] q.2.1 q.2.2.1 q.2.2.2 ∧ [("mask" : Str)] ≠ [] := by
  have e : kw.filter (fun q => decide (q.1 = ("lot_of" : Str))) = [] := by decide +kernel
  rw [e]
  exact in_nil
theorem s2 : FnScope [("part" : Str), ("mask" : Str)] [("part" : Str), ("mask" : Str)] (defScope (st 3)) := ⟨rfl, rfl, rfl, by decide +kernel, rfl, by decide +kernel, by decide +kernel⟩
theorem c2 : cSs 100 (ccOf es bn kw ⟨("is_in" : Str), st 3, [("part" : Str), ("mask" : Str)], [("part" : Str), ("mask" : Str)], i2⟩) (defBody (st 3)) = some i2 := by kernel_rfl
theorem p2 : PosOk ("is_in" : Str) (st 3) [("part" : Str), ("mask" : Str)] := fun _ _ _ _ _ _ us hl => match us, hl with | [_, _], _ => rfl
theorem k2 : ∀ q, q ∈ kw.filter (fun q => decide (q.1 = ("is_in" : Str))) → KwOk ("is_in" : Str) (st 3) [("part" : Str), ("mask" : Str)] q.2.1 q.2.2.1 q.2.2.2 ∧ [("part" : Str), ("mask" : Str)] ≠ [] := by
  have e : kw.filter (fun q => decide (q.1 = ("is_in" : Str))) = [] := by decide +kernel
  rw [e]
  exact in_nil
theorem s3 : FnScope [("size" : Str)] [("size" : Str)] (defScope (st 4)) := ⟨rfl, rfl, rfl, by decide +kernel, rfl, by decide +kernel, by decide +kernel⟩
theorem c3 : cSs 100 (ccOf es bn kw ⟨("all_of" : Str), st 4, [("size" : Str)], [("size" : Str)], i3⟩) (defBody (st 4)) = some i3 := by kernel_rfl
theorem p3 : PosOk ("all_of" : Str) (st 4) [("size" : Str)] := fun _ _ _ _ _ _ us hl => match us, hl with | [_], _ => rfl
theorem k3 : ∀ q, q ∈ kw.filter (fun q => decide (q.1 = ("all_of" : Str))) → KwOk ("all_of" : Str) (st 4) [("size" : Str)] q.2.1 q.2.2.1 q.2.2.2 ∧ [("size" : Str)] ≠ [] := by
  have e : kw.filter (fun q => decide (q.1 = ("all_of" : Str))) = [] := by decide +kernel
  rw [e]
  exact in_nil
theorem s4 : FnScope [("size" : Str), ("found" : Str), ("level" : Str), ("mask" : Str), ("thing" : Str)] [("size" : Str)] (defScope (st 5)) := ⟨rfl, rfl, rfl, by decide +kernel, rfl, by decide +kernel, by decide +kernel⟩
theorem c4 : cSs 100 (ccOf es bn kw ⟨("ordered_masks" : Str), st 5, [("size" : Str), ("found" : Str), ("level" : Str), ("mask" : Str), ("thing" : Str)], [("size" : Str)], i4⟩) (defBody (st 5)) = some i4 := by kernel_rfl
theorem p4 : PosOk ("ordered_masks" : Str) (st 5) [("size" : Str)] := fun _ _ _ _ _ _ us hl => match us, hl with | [_], _ => rfl
theorem k4 : ∀ q, q ∈ kw.filter (fun q => decide (q.1 = ("ordered_masks" : Str))) → KwOk ("ordered_masks" : Str) (st 5) [("size" : Str)] q.2.1 q.2.2.1 q.2.2.2 ∧ [("size" : Str)] ≠ [] := by
  have e : kw.filter (fun q => decide (q.1 = ("ordered_masks" : Str))) = [] := by decide +kernel
  rw [e]
  exact in_nil
theorem s5 : FnScope [("size" : Str), ("rows" : Str), ("found" : Str), ("row" : Str), ("thing" : Str), ("bit" : Str), ("mask" : Str)] [("size" : Str), ("rows" : Str)] (defScope (st 6)) := ⟨rfl, rfl, rfl, by decide +kernel, rfl, by decide +kernel, by decide +kernel⟩
theorem c5 : cSs 100 (ccOf es bn kw ⟨("least_meets" : Str), st 6, [("size" : Str), ("rows" : Str), ("found" : Str), ("row" : Str), ("thing" : Str), ("bit" : Str), ("mask" : Str)], [("size" : Str), ("rows" : Str)], i5⟩) (defBody (st 6)) = some i5 := by kernel_rfl
theorem p5 : PosOk ("least_meets" : Str) (st 6) [("size" : Str), ("rows" : Str)] := fun _ _ _ _ _ _ us hl => match us, hl with | [_, _], _ => rfl
theorem k5 : ∀ q, q ∈ kw.filter (fun q => decide (q.1 = ("least_meets" : Str))) → KwOk ("least_meets" : Str) (st 6) [("size" : Str), ("rows" : Str)] q.2.1 q.2.2.1 q.2.2.2 ∧ [("size" : Str), ("rows" : Str)] ≠ [] := by
  have e : kw.filter (fun q => decide (q.1 = ("least_meets" : Str))) = [] := by decide +kernel
  rw [e]
  exact in_nil
theorem s6 : FnScope [("size" : Str), ("found" : Str), ("mask" : Str)] [("size" : Str), ("found" : Str)] (defScope (st 7)) := ⟨rfl, rfl, rfl, by decide +kernel, rfl, by decide +kernel, by decide +kernel⟩
theorem c6 : cSs 100 (ccOf es bn kw ⟨("fixed_lots" : Str), st 7, [("size" : Str), ("found" : Str), ("mask" : Str)], [("size" : Str), ("found" : Str)], i6⟩) (defBody (st 7)) = some i6 := by kernel_rfl
theorem p6 : PosOk ("fixed_lots" : Str) (st 7) [("size" : Str), ("found" : Str)] := fun _ _ _ _ _ _ us hl => match us, hl with | [_, _], _ => rfl
theorem k6 : ∀ q, q ∈ kw.filter (fun q => decide (q.1 = ("fixed_lots" : Str))) → KwOk ("fixed_lots" : Str) (st 7) [("size" : Str), ("found" : Str)] q.2.1 q.2.2.1 q.2.2.2 ∧ [("size" : Str), ("found" : Str)] ≠ [] := by
  have e : kw.filter (fun q => decide (q.1 = ("fixed_lots" : Str))) = [] := by decide +kernel
  rw [e]
  exact in_nil
theorem s7 : FnScope [("size" : Str), ("lots" : Str), ("mask" : Str), ("lot" : Str)] [("size" : Str), ("lots" : Str)] (defScope (st 9)) := ⟨rfl, rfl, rfl, by decide +kernel, rfl, by decide +kernel, by decide +kernel⟩
theorem c7 : cSs 100 (ccOf es bn kw ⟨("meet" : Str), st 9, [("size" : Str), ("lots" : Str), ("mask" : Str), ("lot" : Str)], [("size" : Str), ("lots" : Str)], i7⟩) (defBody (st 9)) = some i7 := by kernel_rfl
theorem p7 : PosOk ("meet" : Str) (st 9) [("size" : Str), ("lots" : Str)] := fun _ _ _ _ _ _ us hl => match us, hl with | [_, _], _ => rfl
theorem k7 : ∀ q, q ∈ kw.filter (fun q => decide (q.1 = ("meet" : Str))) → KwOk ("meet" : Str) (st 9) [("size" : Str), ("lots" : Str)] q.2.1 q.2.2.1 q.2.2.2 ∧ [("size" : Str), ("lots" : Str)] ≠ [] := by
  have e : kw.filter (fun q => decide (q.1 = ("meet" : Str))) = [] := by decide +kernel
  rw [e]
  exact in_nil
theorem s8 : FnScope [("table" : Str), ("size" : Str), ("rows" : Str), ("row" : Str)] [("table" : Str)] (defScope (st 11)) := ⟨rfl, rfl, rfl, by decide +kernel, rfl, by decide +kernel, by decide +kernel⟩
theorem c8 : cSs 100 (ccOf es bn kw ⟨("_all_meets" : Str), st 11, [("table" : Str), ("size" : Str), ("rows" : Str), ("row" : Str)], [("table" : Str)], i8⟩) (defBody (st 11)) = some i8 := by kernel_rfl
theorem p8 : PosOk ("_all_meets" : Str) (st 11) [("table" : Str)] := fun _ _ _ _ _ _ us hl => match us, hl with | [_], _ => rfl
theorem k8 : ∀ q, q ∈ kw.filter (fun q => decide (q.1 = ("_all_meets" : Str))) → KwOk ("_all_meets" : Str) (st 11) [("table" : Str)] q.2.1 q.2.2.1 q.2.2.2 ∧ [("table" : Str)] ≠ [] := by
  have e : kw.filter (fun q => decide (q.1 = ("_all_meets" : Str))) = [] := by decide +kernel
  rw [e]
  exact in_nil
theorem s9 : FnScope [("table" : Str)] [("table" : Str)] (defScope (st 12)) := ⟨rfl, rfl, rfl, by decide +kernel, rfl, by decide +kernel, by decide +kernel⟩
theorem c9 : cSs 100 (ccOf es bn kw ⟨("meets" : Str), st 12, [("table" : Str)], [("table" : Str)], i9⟩) (defBody (st 12)) = some i9 := by kernel_rfl
theorem p9 : PosOk ("meets" : Str) (st 12) [("table" : Str)] := fun _ _ _ _ _ _ us hl => match us, hl with | [_], _ => rfl
theorem w9_0 : KwOk ("meets" : Str) (st 12) [("table" : Str)] 0 [("table" : Str)] [0] := fun _ _ _ _ _ _ us ws h1 h2 => match us, ws, h1, h2 with | [], [_], _, _ => rfl
theorem k9 : ∀ q, q ∈ kw.filter (fun q => decide (q.1 = ("meets" : Str))) → KwOk ("meets" : Str) (st 12) [("table" : Str)] q.2.1 q.2.2.1 q.2.2.2 ∧ [("table" : Str)] ≠ [] := by
  have e : kw.filter (fun q => decide (q.1 = ("meets" : Str))) = [(("meets" : Str), 0, [("table" : Str)], [0])] := by decide +kernel
  rw [e]
  exact in_cons ⟨w9_0, by simp⟩ (in_nil)
theorem s10 : FnScope [("table" : Str), ("places" : Str), ("size" : Str), ("rows" : Str), ("place" : Str)] [("table" : Str), ("places" : Str)] (defScope (st 13)) := ⟨rfl, rfl, rfl, by decide +kernel, rfl, by decide +kernel, by decide +kernel⟩
theorem c10 : cSs 100 (ccOf es bn kw ⟨("meet_of" : Str), st 13, [("table" : Str), ("places" : Str), ("size" : Str), ("rows" : Str), ("place" : Str)], [("table" : Str), ("places" : Str)], i10⟩) (defBody (st 13)) = some i10 := by kernel_rfl
theorem p10 : PosOk ("meet_of" : Str) (st 13) [("table" : Str), ("places" : Str)] := fun _ _ _ _ _ _ us hl => match us, hl with | [_, _], _ => rfl
theorem w10_0 : KwOk ("meet_of" : Str) (st 13) [("table" : Str), ("places" : Str)] 0 [("places" : Str), ("table" : Str)] [1, 0] := fun _ _ _ _ _ _ us ws h1 h2 => match us, ws, h1, h2 with | [], [_, _], _, _ => rfl
theorem k10 : ∀ q, q ∈ kw.filter (fun q => decide (q.1 = ("meet_of" : Str))) → KwOk ("meet_of" : Str) (st 13) [("table" : Str), ("places" : Str)] q.2.1 q.2.2.1 q.2.2.2 ∧ [("table" : Str), ("places" : Str)] ≠ [] := by
  have e : kw.filter (fun q => decide (q.1 = ("meet_of" : Str))) = [(("meet_of" : Str), 0, [("places" : Str), ("table" : Str)], [1, 0])] := by decide +kernel
  rw [e]
  exact in_cons ⟨w10_0, by simp⟩ (in_nil)
theorem s11 : FnScope [("rows" : Str), ("mask" : Str), ("place" : Str), ("row" : Str)] [("rows" : Str), ("mask" : Str)] (defScope (st 14)) := ⟨rfl, rfl, rfl, by decide +kernel, rfl, by decide +kernel, by decide +kernel⟩
theorem c11 : cSs 100 (ccOf es bn kw ⟨("_sharing" : Str), st 14, [("rows" : Str), ("mask" : Str), ("place" : Str), ("row" : Str)], [("rows" : Str), ("mask" : Str)], i11⟩) (defBody (st 14)) = some i11 := by kernel_rfl
theorem p11 : PosOk ("_sharing" : Str) (st 14) [("rows" : Str), ("mask" : Str)] := fun _ _ _ _ _ _ us hl => match us, hl with | [_, _], _ => rfl
theorem k11 : ∀ q, q ∈ kw.filter (fun q => decide (q.1 = ("_sharing" : Str))) → KwOk ("_sharing" : Str) (st 14) [("rows" : Str), ("mask" : Str)] q.2.1 q.2.2.1 q.2.2.2 ∧ [("rows" : Str), ("mask" : Str)] ≠ [] := by
  have e : kw.filter (fun q => decide (q.1 = ("_sharing" : Str))) = [] := by decide +kernel
  rw [e]
  exact in_nil
theorem s12 : FnScope [("table" : Str), ("lot" : Str), ("row" : Str)] [("table" : Str), ("lot" : Str)] (defScope (st 15)) := ⟨rfl, rfl, rfl, by decide +kernel, rfl, by decide +kernel, by decide +kernel⟩
theorem c12 : cSs 100 (ccOf es bn kw ⟨("shared" : Str), st 15, [("table" : Str), ("lot" : Str), ("row" : Str)], [("table" : Str), ("lot" : Str)], i12⟩) (defBody (st 15)) = some i12 := by kernel_rfl
theorem p12 : PosOk ("shared" : Str) (st 15) [("table" : Str), ("lot" : Str)] := fun _ _ _ _ _ _ us hl => match us, hl with | [_, _], _ => rfl
theorem w12_0 : KwOk ("shared" : Str) (st 15) [("table" : Str), ("lot" : Str)] 0 [("lot" : Str), ("table" : Str)] [1, 0] := fun _ _ _ _ _ _ us ws h1 h2 => match us, ws, h1, h2 with | [], [_, _], _, _ => rfl
theorem k12 : ∀ q, q ∈ kw.filter (fun q => decide (q.1 = ("shared" : Str))) → KwOk ("shared" : Str) (st 15) [("table" : Str), ("lot" : Str)] q.2.1 q.2.2.1 q.2.2.2 ∧ [("table" : Str), ("lot" : Str)] ≠ [] := by
  have e : kw.filter (fun q => decide (q.1 = ("shared" : Str))) = [(("shared" : Str), 0, [("lot" : Str), ("table" : Str)], [1, 0])] := by decide +kernel
  rw [e]
  exact in_cons ⟨w12_0, by simp⟩ (in_nil)
theorem s13 : FnScope [("table" : Str), ("lot" : Str)] [("table" : Str), ("lot" : Str)] (defScope (st 16)) := ⟨rfl, rfl, rfl, by decide +kernel, rfl, by decide +kernel, by decide +kernel⟩
theorem c13 : cSs 100 (ccOf es bn kw ⟨("is_meet" : Str), st 16, [("table" : Str), ("lot" : Str)], [("table" : Str), ("lot" : Str)], i13⟩) (defBody (st 16)) = some i13 := by kernel_rfl
theorem p13 : PosOk ("is_meet" : Str) (st 16) [("table" : Str), ("lot" : Str)] := fun _ _ _ _ _ _ us hl => match us, hl with | [_, _], _ => rfl
theorem w13_0 : KwOk ("is_meet" : Str) (st 16) [("table" : Str), ("lot" : Str)] 0 [("lot" : Str), ("table" : Str)] [1, 0] := fun _ _ _ _ _ _ us ws h1 h2 => match us, ws, h1, h2 with | [], [_, _], _, _ => rfl
theorem k13 : ∀ q, q ∈ kw.filter (fun q => decide (q.1 = ("is_meet" : Str))) → KwOk ("is_meet" : Str) (st 16) [("table" : Str), ("lot" : Str)] q.2.1 q.2.2.1 q.2.2.2 ∧ [("table" : Str), ("lot" : Str)] ≠ [] := by
  have e : kw.filter (fun q => decide (q.1 = ("is_meet" : Str))) = [(("is_meet" : Str), 0, [("lot" : Str), ("table" : Str)], [1, 0])] := by decide +kernel
  rw [e]
  exact in_cons ⟨w13_0, by simp⟩ (in_nil)
theorem s14 : FnScope [("table" : Str), ("rows" : Str), ("row" : Str), ("lot" : Str)] [("table" : Str)] (defScope (st 17)) := ⟨rfl, rfl, rfl, by decide +kernel, rfl, by decide +kernel, by decide +kernel⟩
theorem c14 : cSs 100 (ccOf es bn kw ⟨("closed_pairs" : Str), st 17, [("table" : Str), ("rows" : Str), ("row" : Str), ("lot" : Str)], [("table" : Str)], i14⟩) (defBody (st 17)) = some i14 := by kernel_rfl
theorem p14 : PosOk ("closed_pairs" : Str) (st 17) [("table" : Str)] := fun _ _ _ _ _ _ us hl => match us, hl with | [_], _ => rfl
theorem w14_0 : KwOk ("closed_pairs" : Str) (st 17) [("table" : Str)] 0 [("table" : Str)] [0] := fun _ _ _ _ _ _ us ws h1 h2 => match us, ws, h1, h2 with | [], [_], _, _ => rfl
theorem k14 : ∀ q, q ∈ kw.filter (fun q => decide (q.1 = ("closed_pairs" : Str))) → KwOk ("closed_pairs" : Str) (st 17) [("table" : Str)] q.2.1 q.2.2.1 q.2.2.2 ∧ [("table" : Str)] ≠ [] := by
  have e : kw.filter (fun q => decide (q.1 = ("closed_pairs" : Str))) = [(("closed_pairs" : Str), 0, [("table" : Str)], [0])] := by decide +kernel
  rw [e]
  exact in_cons ⟨w14_0, by simp⟩ (in_nil)
theorem s15 : FnScope [("_law_script" : Str), ("_law_known" : Str), ("_law_cell" : Str)] [("_law_script" : Str)] (defScope (st 19)) := ⟨rfl, rfl, rfl, by decide +kernel, rfl, by decide +kernel, by decide +kernel⟩
theorem c15 : cSs 100 (ccOf es bn kw ⟨("_law_spring" : Str), st 19, [("_law_script" : Str), ("_law_known" : Str), ("_law_cell" : Str)], [("_law_script" : Str)], i15⟩) (defBody (st 19)) = some i15 := by kernel_rfl
theorem p15 : PosOk ("_law_spring" : Str) (st 19) [("_law_script" : Str)] := fun _ _ _ _ _ _ us hl => match us, hl with | [_], _ => rfl
theorem k15 : ∀ q, q ∈ kw.filter (fun q => decide (q.1 = ("_law_spring" : Str))) → KwOk ("_law_spring" : Str) (st 19) [("_law_script" : Str)] q.2.1 q.2.2.1 q.2.2.2 ∧ [("_law_script" : Str)] ≠ [] := by
  have e : kw.filter (fun q => decide (q.1 = ("_law_spring" : Str))) = [] := by decide +kernel
  rw [e]
  exact in_nil
theorem s16 : FnScope [("_law_spring_here" : Str), ("_law_many" : Str), ("_law_great" : Str), ("_law_turn" : Str), ("_law_cell" : Str), ("_law_mixed" : Str)] [("_law_spring_here" : Str), ("_law_many" : Str)] (defScope (st 20)) := ⟨rfl, rfl, rfl, by decide +kernel, rfl, by decide +kernel, by decide +kernel⟩
theorem c16 : cSs 100 (ccOf es bn kw ⟨("_law_draw" : Str), st 20, [("_law_spring_here" : Str), ("_law_many" : Str), ("_law_great" : Str), ("_law_turn" : Str), ("_law_cell" : Str), ("_law_mixed" : Str)], [("_law_spring_here" : Str), ("_law_many" : Str)], i16⟩) (defBody (st 20)) = some i16 := by kernel_rfl
theorem p16 : PosOk ("_law_draw" : Str) (st 20) [("_law_spring_here" : Str), ("_law_many" : Str)] := fun _ _ _ _ _ _ us hl => match us, hl with | [_, _], _ => rfl
theorem k16 : ∀ q, q ∈ kw.filter (fun q => decide (q.1 = ("_law_draw" : Str))) → KwOk ("_law_draw" : Str) (st 20) [("_law_spring_here" : Str), ("_law_many" : Str)] q.2.1 q.2.2.1 q.2.2.2 ∧ [("_law_spring_here" : Str), ("_law_many" : Str)] ≠ [] := by
  have e : kw.filter (fun q => decide (q.1 = ("_law_draw" : Str))) = [] := by decide +kernel
  rw [e]
  exact in_nil
theorem s17 : FnScope [("_law_spring_here" : Str), ("_law_items" : Str)] [("_law_spring_here" : Str), ("_law_items" : Str)] (defScope (st 21)) := ⟨rfl, rfl, rfl, by decide +kernel, rfl, by decide +kernel, by decide +kernel⟩
theorem c17 : cSs 100 (ccOf es bn kw ⟨("_law_pick" : Str), st 21, [("_law_spring_here" : Str), ("_law_items" : Str)], [("_law_spring_here" : Str), ("_law_items" : Str)], i17⟩) (defBody (st 21)) = some i17 := by kernel_rfl
theorem p17 : PosOk ("_law_pick" : Str) (st 21) [("_law_spring_here" : Str), ("_law_items" : Str)] := fun _ _ _ _ _ _ us hl => match us, hl with | [_, _], _ => rfl
theorem k17 : ∀ q, q ∈ kw.filter (fun q => decide (q.1 = ("_law_pick" : Str))) → KwOk ("_law_pick" : Str) (st 21) [("_law_spring_here" : Str), ("_law_items" : Str)] q.2.1 q.2.2.1 q.2.2.2 ∧ [("_law_spring_here" : Str), ("_law_items" : Str)] ≠ [] := by
  have e : kw.filter (fun q => decide (q.1 = ("_law_pick" : Str))) = [] := by decide +kernel
  rw [e]
  exact in_nil
theorem s18 : FnScope [("_law_spring_here" : Str), ("_law_wide" : Str), ("_law_many" : Str), ("_law_mask" : Str), ("_law_turn" : Str)] [("_law_spring_here" : Str), ("_law_wide" : Str), ("_law_many" : Str)] (defScope (st 22)) := ⟨rfl, rfl, rfl, by decide +kernel, rfl, by decide +kernel, by decide +kernel⟩
theorem c18 : cSs 100 (ccOf es bn kw ⟨("_law_some" : Str), st 22, [("_law_spring_here" : Str), ("_law_wide" : Str), ("_law_many" : Str), ("_law_mask" : Str), ("_law_turn" : Str)], [("_law_spring_here" : Str), ("_law_wide" : Str), ("_law_many" : Str)], i18⟩) (defBody (st 22)) = some i18 := by kernel_rfl
theorem p18 : PosOk ("_law_some" : Str) (st 22) [("_law_spring_here" : Str), ("_law_wide" : Str), ("_law_many" : Str)] := fun _ _ _ _ _ _ us hl => match us, hl with | [_, _, _], _ => rfl
theorem k18 : ∀ q, q ∈ kw.filter (fun q => decide (q.1 = ("_law_some" : Str))) → KwOk ("_law_some" : Str) (st 22) [("_law_spring_here" : Str), ("_law_wide" : Str), ("_law_many" : Str)] q.2.1 q.2.2.1 q.2.2.2 ∧ [("_law_spring_here" : Str), ("_law_wide" : Str), ("_law_many" : Str)] ≠ [] := by
  have e : kw.filter (fun q => decide (q.1 = ("_law_some" : Str))) = [] := by decide +kernel
  rw [e]
  exact in_nil
theorem s19 : FnScope [("_law_mask" : Str), ("_law_one" : Str)] [("_law_mask" : Str)] (defScope (st 23)) := ⟨rfl, rfl, rfl, by decide +kernel, rfl, by decide +kernel, by decide +kernel⟩
theorem c19 : cSs 100 (ccOf es bn kw ⟨("_law_lot" : Str), st 23, [("_law_mask" : Str), ("_law_one" : Str)], [("_law_mask" : Str)], i19⟩) (defBody (st 23)) = some i19 := by kernel_rfl
theorem p19 : PosOk ("_law_lot" : Str) (st 23) [("_law_mask" : Str)] := fun _ _ _ _ _ _ us hl => match us, hl with | [_], _ => rfl
theorem k19 : ∀ q, q ∈ kw.filter (fun q => decide (q.1 = ("_law_lot" : Str))) → KwOk ("_law_lot" : Str) (st 23) [("_law_mask" : Str)] q.2.1 q.2.2.1 q.2.2.2 ∧ [("_law_mask" : Str)] ≠ [] := by
  have e : kw.filter (fun q => decide (q.1 = ("_law_lot" : Str))) = [] := by decide +kernel
  rw [e]
  exact in_nil
theorem s20 : FnScope [("_law_spring_here" : Str), ("_law_wide" : Str), ("_law_many" : Str), ("_law_turn" : Str), ("_law_found" : Str), ("_law_way" : Str), ("_law_full" : Str), ("_law_kind" : Str), ("_law_mask" : Str)] [("_law_spring_here" : Str), ("_law_wide" : Str), ("_law_many" : Str)] (defScope (st 24)) := ⟨rfl, rfl, rfl, by decide +kernel, rfl, by decide +kernel, by decide +kernel⟩
theorem c20 : cSs 100 (ccOf es bn kw ⟨("_law_rows" : Str), st 24, [("_law_spring_here" : Str), ("_law_wide" : Str), ("_law_many" : Str), ("_law_turn" : Str), ("_law_found" : Str), ("_law_way" : Str), ("_law_full" : Str), ("_law_kind" : Str), ("_law_mask" : Str)], [("_law_spring_here" : Str), ("_law_wide" : Str), ("_law_many" : Str)], i20⟩) (defBody (st 24)) = some i20 := by kernel_rfl
theorem p20 : PosOk ("_law_rows" : Str) (st 24) [("_law_spring_here" : Str), ("_law_wide" : Str), ("_law_many" : Str)] := fun _ _ _ _ _ _ us hl => match us, hl with | [_, _, _], _ => rfl
theorem k20 : ∀ q, q ∈ kw.filter (fun q => decide (q.1 = ("_law_rows" : Str))) → KwOk ("_law_rows" : Str) (st 24) [("_law_spring_here" : Str), ("_law_wide" : Str), ("_law_many" : Str)] q.2.1 q.2.2.1 q.2.2.2 ∧ [("_law_spring_here" : Str), ("_law_wide" : Str), ("_law_many" : Str)] ≠ [] := by
  have e : kw.filter (fun q => decide (q.1 = ("_law_rows" : Str))) = [] := by decide +kernel
  rw [e]
  exact in_nil
theorem s21 : FnScope [("_law_wide" : Str), ("_law_masks" : Str), ("_law_mask" : Str)] [("_law_wide" : Str), ("_law_masks" : Str)] (defScope (st 25)) := ⟨rfl, rfl, rfl, by decide +kernel, rfl, by decide +kernel, by decide +kernel⟩
theorem c21 : cSs 100 (ccOf es bn kw ⟨("_law_sheet" : Str), st 25, [("_law_wide" : Str), ("_law_masks" : Str), ("_law_mask" : Str)], [("_law_wide" : Str), ("_law_masks" : Str)], i21⟩) (defBody (st 25)) = some i21 := by kernel_rfl
theorem p21 : PosOk ("_law_sheet" : Str) (st 25) [("_law_wide" : Str), ("_law_masks" : Str)] := fun _ _ _ _ _ _ us hl => match us, hl with | [_, _], _ => rfl
theorem k21 : ∀ q, q ∈ kw.filter (fun q => decide (q.1 = ("_law_sheet" : Str))) → KwOk ("_law_sheet" : Str) (st 25) [("_law_wide" : Str), ("_law_masks" : Str)] q.2.1 q.2.2.1 q.2.2.2 ∧ [("_law_wide" : Str), ("_law_masks" : Str)] ≠ [] := by
  have e : kw.filter (fun q => decide (q.1 = ("_law_sheet" : Str))) = [] := by decide +kernel
  rw [e]
  exact in_nil
theorem s22 : FnScope [("_law_masks" : Str), ("_law_mask" : Str), ("_law_at" : Str), ("_law_row" : Str)] [("_law_masks" : Str), ("_law_mask" : Str)] (defScope (st 26)) := ⟨rfl, rfl, rfl, by decide +kernel, rfl, by decide +kernel, by decide +kernel⟩
theorem c22 : cSs 100 (ccOf es bn kw ⟨("_law_having" : Str), st 26, [("_law_masks" : Str), ("_law_mask" : Str), ("_law_at" : Str), ("_law_row" : Str)], [("_law_masks" : Str), ("_law_mask" : Str)], i22⟩) (defBody (st 26)) = some i22 := by kernel_rfl
theorem p22 : PosOk ("_law_having" : Str) (st 26) [("_law_masks" : Str), ("_law_mask" : Str)] := fun _ _ _ _ _ _ us hl => match us, hl with | [_, _], _ => rfl
theorem k22 : ∀ q, q ∈ kw.filter (fun q => decide (q.1 = ("_law_having" : Str))) → KwOk ("_law_having" : Str) (st 26) [("_law_masks" : Str), ("_law_mask" : Str)] q.2.1 q.2.2.1 q.2.2.2 ∧ [("_law_masks" : Str), ("_law_mask" : Str)] ≠ [] := by
  have e : kw.filter (fun q => decide (q.1 = ("_law_having" : Str))) = [] := by decide +kernel
  rw [e]
  exact in_nil
theorem s23 : FnScope [("_law_wide" : Str), ("_law_masks" : Str), ("_law_spots" : Str), ("_law_found" : Str), ("_law_at" : Str)] [("_law_wide" : Str), ("_law_masks" : Str), ("_law_spots" : Str)] (defScope (st 27)) := ⟨rfl, rfl, rfl, by decide +kernel, rfl, by decide +kernel, by decide +kernel⟩
theorem c23 : cSs 100 (ccOf es bn kw ⟨("_law_common" : Str), st 27, [("_law_wide" : Str), ("_law_masks" : Str), ("_law_spots" : Str), ("_law_found" : Str), ("_law_at" : Str)], [("_law_wide" : Str), ("_law_masks" : Str), ("_law_spots" : Str)], i23⟩) (defBody (st 27)) = some i23 := by kernel_rfl
theorem p23 : PosOk ("_law_common" : Str) (st 27) [("_law_wide" : Str), ("_law_masks" : Str), ("_law_spots" : Str)] := fun _ _ _ _ _ _ us hl => match us, hl with | [_, _, _], _ => rfl
theorem k23 : ∀ q, q ∈ kw.filter (fun q => decide (q.1 = ("_law_common" : Str))) → KwOk ("_law_common" : Str) (st 27) [("_law_wide" : Str), ("_law_masks" : Str), ("_law_spots" : Str)] q.2.1 q.2.2.1 q.2.2.2 ∧ [("_law_wide" : Str), ("_law_masks" : Str), ("_law_spots" : Str)] ≠ [] := by
  have e : kw.filter (fun q => decide (q.1 = ("_law_common" : Str))) = [] := by decide +kernel
  rw [e]
  exact in_nil
theorem s24 : FnScope [("_law_wide" : Str), ("_law_masks" : Str), ("_law_found" : Str), ("_law_mask" : Str), ("_law_spots" : Str)] [("_law_wide" : Str), ("_law_masks" : Str)] (defScope (st 28)) := ⟨rfl, rfl, rfl, by decide +kernel, rfl, by decide +kernel, by decide +kernel⟩
theorem c24 : cSs 100 (ccOf es bn kw ⟨("_law_by_lots" : Str), st 28, [("_law_wide" : Str), ("_law_masks" : Str), ("_law_found" : Str), ("_law_mask" : Str), ("_law_spots" : Str)], [("_law_wide" : Str), ("_law_masks" : Str)], i24⟩) (defBody (st 28)) = some i24 := by kernel_rfl
theorem p24 : PosOk ("_law_by_lots" : Str) (st 28) [("_law_wide" : Str), ("_law_masks" : Str)] := fun _ _ _ _ _ _ us hl => match us, hl with | [_, _], _ => rfl
theorem k24 : ∀ q, q ∈ kw.filter (fun q => decide (q.1 = ("_law_by_lots" : Str))) → KwOk ("_law_by_lots" : Str) (st 28) [("_law_wide" : Str), ("_law_masks" : Str)] q.2.1 q.2.2.1 q.2.2.2 ∧ [("_law_wide" : Str), ("_law_masks" : Str)] ≠ [] := by
  have e : kw.filter (fun q => decide (q.1 = ("_law_by_lots" : Str))) = [] := by decide +kernel
  rw [e]
  exact in_nil
theorem s25 : FnScope [("_law_wide" : Str), ("_law_masks" : Str), ("_law_found" : Str), ("_law_choice" : Str), ("_law_spots" : Str), ("_law_mask" : Str), ("_law_at" : Str)] [("_law_wide" : Str), ("_law_masks" : Str)] (defScope (st 29)) := ⟨rfl, rfl, rfl, by decide +kernel, rfl, by decide +kernel, by decide +kernel⟩
theorem c25 : cSs 100 (ccOf es bn kw ⟨("_law_by_places" : Str), st 29, [("_law_wide" : Str), ("_law_masks" : Str), ("_law_found" : Str), ("_law_choice" : Str), ("_law_spots" : Str), ("_law_mask" : Str), ("_law_at" : Str)], [("_law_wide" : Str), ("_law_masks" : Str)], i25⟩) (defBody (st 29)) = some i25 := by kernel_rfl
theorem p25 : PosOk ("_law_by_places" : Str) (st 29) [("_law_wide" : Str), ("_law_masks" : Str)] := fun _ _ _ _ _ _ us hl => match us, hl with | [_, _], _ => rfl
theorem k25 : ∀ q, q ∈ kw.filter (fun q => decide (q.1 = ("_law_by_places" : Str))) → KwOk ("_law_by_places" : Str) (st 29) [("_law_wide" : Str), ("_law_masks" : Str)] q.2.1 q.2.2.1 q.2.2.2 ∧ [("_law_wide" : Str), ("_law_masks" : Str)] ≠ [] := by
  have e : kw.filter (fun q => decide (q.1 = ("_law_by_places" : Str))) = [] := by decide +kernel
  rw [e]
  exact in_nil
theorem s26 : FnScope [("_law_pair" : Str)] [("_law_pair" : Str)] (defScope (st 30)) := ⟨rfl, rfl, rfl, by decide +kernel, rfl, by decide +kernel, by decide +kernel⟩
theorem c26 : cSs 100 (ccOf es bn kw ⟨("_law_pair_rank" : Str), st 30, [("_law_pair" : Str)], [("_law_pair" : Str)], i26⟩) (defBody (st 30)) = some i26 := by kernel_rfl
theorem p26 : PosOk ("_law_pair_rank" : Str) (st 30) [("_law_pair" : Str)] := fun _ _ _ _ _ _ us hl => match us, hl with | [_], _ => rfl
theorem k26 : ∀ q, q ∈ kw.filter (fun q => decide (q.1 = ("_law_pair_rank" : Str))) → KwOk ("_law_pair_rank" : Str) (st 30) [("_law_pair" : Str)] q.2.1 q.2.2.1 q.2.2.2 ∧ [("_law_pair" : Str)] ≠ [] := by
  have e : kw.filter (fun q => decide (q.1 = ("_law_pair_rank" : Str))) = [] := by decide +kernel
  rw [e]
  exact in_nil
theorem s27 : FnScope [("_law_sheet_here" : Str), ("_law_masks" : Str), ("_law_asked" : Str), ("_law_wide" : Str), ("_law_mask" : Str), ("_law_least" : Str), ("_law_told" : Str), ("_law_own" : Str), ("_law_spots" : Str)] [("_law_sheet_here" : Str), ("_law_masks" : Str), ("_law_asked" : Str)] (defScope (st 31)) := ⟨rfl, rfl, rfl, by decide +kernel, rfl, by decide +kernel, by decide +kernel⟩
theorem c27 : cSs 100 (ccOf es bn kw ⟨("_law_by_asking" : Str), st 31, [("_law_sheet_here" : Str), ("_law_masks" : Str), ("_law_asked" : Str), ("_law_wide" : Str), ("_law_mask" : Str), ("_law_least" : Str), ("_law_told" : Str), ("_law_own" : Str), ("_law_spots" : Str)], [("_law_sheet_here" : Str), ("_law_masks" : Str), ("_law_asked" : Str)], i27⟩) (defBody (st 31)) = some i27 := by kernel_rfl
theorem p27 : PosOk ("_law_by_asking" : Str) (st 31) [("_law_sheet_here" : Str), ("_law_masks" : Str), ("_law_asked" : Str)] := fun _ _ _ _ _ _ us hl => match us, hl with | [_, _, _], _ => rfl
theorem k27 : ∀ q, q ∈ kw.filter (fun q => decide (q.1 = ("_law_by_asking" : Str))) → KwOk ("_law_by_asking" : Str) (st 31) [("_law_sheet_here" : Str), ("_law_masks" : Str), ("_law_asked" : Str)] q.2.1 q.2.2.1 q.2.2.2 ∧ [("_law_sheet_here" : Str), ("_law_masks" : Str), ("_law_asked" : Str)] ≠ [] := by
  have e : kw.filter (fun q => decide (q.1 = ("_law_by_asking" : Str))) = [] := by decide +kernel
  rw [e]
  exact in_nil
theorem s28 : FnScope [("_law_spring_here" : Str), ("_law_sheet_here" : Str), ("_law_masks" : Str), ("_law_turn" : Str), ("_law_spots" : Str), ("_law_due" : Str), ("_law_at" : Str)] [("_law_spring_here" : Str), ("_law_sheet_here" : Str), ("_law_masks" : Str)] (defScope (st 32)) := ⟨rfl, rfl, rfl, by decide +kernel, rfl, by decide +kernel, by decide +kernel⟩
theorem c28 : cSs 100 (ccOf es bn kw ⟨("_law_by_choice" : Str), st 32, [("_law_spring_here" : Str), ("_law_sheet_here" : Str), ("_law_masks" : Str), ("_law_turn" : Str), ("_law_spots" : Str), ("_law_due" : Str), ("_law_at" : Str)], [("_law_spring_here" : Str), ("_law_sheet_here" : Str), ("_law_masks" : Str)], i28⟩) (defBody (st 32)) = some i28 := by kernel_rfl
theorem p28 : PosOk ("_law_by_choice" : Str) (st 32) [("_law_spring_here" : Str), ("_law_sheet_here" : Str), ("_law_masks" : Str)] := fun _ _ _ _ _ _ us hl => match us, hl with | [_, _, _], _ => rfl
theorem k28 : ∀ q, q ∈ kw.filter (fun q => decide (q.1 = ("_law_by_choice" : Str))) → KwOk ("_law_by_choice" : Str) (st 32) [("_law_spring_here" : Str), ("_law_sheet_here" : Str), ("_law_masks" : Str)] q.2.1 q.2.2.1 q.2.2.2 ∧ [("_law_spring_here" : Str), ("_law_sheet_here" : Str), ("_law_masks" : Str)] ≠ [] := by
  have e : kw.filter (fun q => decide (q.1 = ("_law_by_choice" : Str))) = [] := by decide +kernel
  rw [e]
  exact in_nil
theorem s29 : FnScope [("_law_wide" : Str), ("_law_masks" : Str), ("_law_due" : Str), ("_law_turned" : Str), ("_law_pairs" : Str), ("_law_told" : Str), ("_law_at" : Str), ("_law_one" : Str), ("_law_own" : Str), ("_law_spots" : Str)] [("_law_wide" : Str), ("_law_masks" : Str), ("_law_due" : Str)] (defScope (st 33)) := ⟨rfl, rfl, rfl, by decide +kernel, rfl, by decide +kernel, by decide +kernel⟩
theorem c29 : cSs 100 (ccOf es bn kw ⟨("_law_by_turning" : Str), st 33, [("_law_wide" : Str), ("_law_masks" : Str), ("_law_due" : Str), ("_law_turned" : Str), ("_law_pairs" : Str), ("_law_told" : Str), ("_law_at" : Str), ("_law_one" : Str), ("_law_own" : Str), ("_law_spots" : Str)], [("_law_wide" : Str), ("_law_masks" : Str), ("_law_due" : Str)], i29⟩) (defBody (st 33)) = some i29 := by kernel_rfl
theorem p29 : PosOk ("_law_by_turning" : Str) (st 33) [("_law_wide" : Str), ("_law_masks" : Str), ("_law_due" : Str)] := fun _ _ _ _ _ _ us hl => match us, hl with | [_, _, _], _ => rfl
theorem k29 : ∀ q, q ∈ kw.filter (fun q => decide (q.1 = ("_law_by_turning" : Str))) → KwOk ("_law_by_turning" : Str) (st 33) [("_law_wide" : Str), ("_law_masks" : Str), ("_law_due" : Str)] q.2.1 q.2.2.1 q.2.2.2 ∧ [("_law_wide" : Str), ("_law_masks" : Str), ("_law_due" : Str)] ≠ [] := by
  have e : kw.filter (fun q => decide (q.1 = ("_law_by_turning" : Str))) = [] := by decide +kernel
  rw [e]
  exact in_nil
theorem s30 : FnScope [("_law_spring_here" : Str), ("_law_wide" : Str), ("_law_masks" : Str), ("_law_due" : Str), ("_law_sheet_here" : Str), ("_law_asked" : Str), ("_law_own" : Str), ("_law_spots" : Str), ("_law_turn" : Str)] [("_law_spring_here" : Str), ("_law_wide" : Str), ("_law_masks" : Str), ("_law_due" : Str)] (defScope (st 34)) := ⟨rfl, rfl, rfl, by decide +kernel, rfl, by decide +kernel, by decide +kernel⟩
theorem c30 : cSs 100 (ccOf es bn kw ⟨("_law_is_right" : Str), st 34, [("_law_spring_here" : Str), ("_law_wide" : Str), ("_law_masks" : Str), ("_law_due" : Str), ("_law_sheet_here" : Str), ("_law_asked" : Str), ("_law_own" : Str), ("_law_spots" : Str), ("_law_turn" : Str)], [("_law_spring_here" : Str), ("_law_wide" : Str), ("_law_masks" : Str), ("_law_due" : Str)], i30⟩) (defBody (st 34)) = some i30 := by kernel_rfl
theorem p30 : PosOk ("_law_is_right" : Str) (st 34) [("_law_spring_here" : Str), ("_law_wide" : Str), ("_law_masks" : Str), ("_law_due" : Str)] := fun _ _ _ _ _ _ us hl => match us, hl with | [_, _, _, _], _ => rfl
theorem k30 : ∀ q, q ∈ kw.filter (fun q => decide (q.1 = ("_law_is_right" : Str))) → KwOk ("_law_is_right" : Str) (st 34) [("_law_spring_here" : Str), ("_law_wide" : Str), ("_law_masks" : Str), ("_law_due" : Str)] q.2.1 q.2.2.1 q.2.2.2 ∧ [("_law_spring_here" : Str), ("_law_wide" : Str), ("_law_masks" : Str), ("_law_due" : Str)] ≠ [] := by
  have e : kw.filter (fun q => decide (q.1 = ("_law_is_right" : Str))) = [] := by decide +kernel
  rw [e]
  exact in_nil
theorem s31 : FnScope [("_law_script" : Str), ("_law_spring_here" : Str), ("_law_turn" : Str), ("_law_masks" : Str), ("_law_sheet_here" : Str), ("_law_found" : Str), ("_law_due" : Str), ("_law_wide" : Str), ("_law_one" : Str)] [("_law_script" : Str)] (defScope (st 35)) := ⟨rfl, rfl, rfl, by decide +kernel, rfl, by decide +kernel, by decide +kernel⟩
theorem c31 : cSs 100 (ccOf es bn kw ⟨("law" : Str), st 35, [("_law_script" : Str), ("_law_spring_here" : Str), ("_law_turn" : Str), ("_law_masks" : Str), ("_law_sheet_here" : Str), ("_law_found" : Str), ("_law_due" : Str), ("_law_wide" : Str), ("_law_one" : Str)], [("_law_script" : Str)], i31⟩) (defBody (st 35)) = some i31 := by kernel_rfl
theorem p31 : PosOk ("law" : Str) (st 35) [("_law_script" : Str)] := fun _ _ _ _ _ _ us hl => match us, hl with | [_], _ => rfl
theorem k31 : ∀ q, q ∈ kw.filter (fun q => decide (q.1 = ("law" : Str))) → KwOk ("law" : Str) (st 35) [("_law_script" : Str)] q.2.1 q.2.2.1 q.2.2.2 ∧ [("_law_script" : Str)] ≠ [] := by
  have e : kw.filter (fun q => decide (q.1 = ("law" : Str))) = [] := by decide +kernel
  rw [e]
  exact in_nil
theorem sheet : Sheet es bn kw := ⟨at_cons s0 (at_cons s1 (at_cons s2 (at_cons s3 (at_cons s4 (at_cons s5 (at_cons s6 (at_cons s7 (at_cons s8 (at_cons s9 (at_cons s10 (at_cons s11 (at_cons s12 (at_cons s13 (at_cons s14 (at_cons s15 (at_cons s16 (at_cons s17 (at_cons s18 (at_cons s19 (at_cons s20 (at_cons s21 (at_cons s22 (at_cons s23 (at_cons s24 (at_cons s25 (at_cons s26 (at_cons s27 (at_cons s28 (at_cons s29 (at_cons s30 (at_cons s31 (at_nil)))))))))))))))))))))))))))))))), at_cons c0 (at_cons c1 (at_cons c2 (at_cons c3 (at_cons c4 (at_cons c5 (at_cons c6 (at_cons c7 (at_cons c8 (at_cons c9 (at_cons c10 (at_cons c11 (at_cons c12 (at_cons c13 (at_cons c14 (at_cons c15 (at_cons c16 (at_cons c17 (at_cons c18 (at_cons c19 (at_cons c20 (at_cons c21 (at_cons c22 (at_cons c23 (at_cons c24 (at_cons c25 (at_cons c26 (at_cons c27 (at_cons c28 (at_cons c29 (at_cons c30 (at_cons c31 (at_nil)))))))))))))))))))))))))))))))), at_cons p0 (at_cons p1 (at_cons p2 (at_cons p3 (at_cons p4 (at_cons p5 (at_cons p6 (at_cons p7 (at_cons p8 (at_cons p9 (at_cons p10 (at_cons p11 (at_cons p12 (at_cons p13 (at_cons p14 (at_cons p15 (at_cons p16 (at_cons p17 (at_cons p18 (at_cons p19 (at_cons p20 (at_cons p21 (at_cons p22 (at_cons p23 (at_cons p24 (at_cons p25 (at_cons p26 (at_cons p27 (at_cons p28 (at_cons p29 (at_cons p30 (at_cons p31 (at_nil)))))))))))))))))))))))))))))))), at_cons k0 (at_cons k1 (at_cons k2 (at_cons k3 (at_cons k4 (at_cons k5 (at_cons k6 (at_cons k7 (at_cons k8 (at_cons k9 (at_cons k10 (at_cons k11 (at_cons k12 (at_cons k13 (at_cons k14 (at_cons k15 (at_cons k16 (at_cons k17 (at_cons k18 (at_cons k19 (at_cons k20 (at_cons k21 (at_cons k22 (at_cons k23 (at_cons k24 (at_cons k25 (at_cons k26 (at_cons k27 (at_cons k28 (at_cons k29 (at_cons k30 (at_cons k31 (at_nil))))))))))))))))))))))))))))))))⟩
def Ps : List Df := es.map dfOf
end K22

set_option Elab.async false
set_option linter.all false
set_option maxRecDepth 100000
set_option maxHeartbeats 4000000
namespace K22
open PySem PySem.Spec Ev Prog Lots
theorem f0 (k : Nat) : IsMaskOf (evCall Ps (k + 1)) 0 := fun xs S hx => call_ok (d := ⟨3, 1, bMaskOf⟩) rfl (maskOf_ok hx)
theorem f1 (k : Nat) : IsLotOf (evCall Ps (k + 1)) 1 := fun m S h => call_ok (d := ⟨2, 1, bLotOf⟩) rfl (lotOf_ok h)
theorem f2 (k : Nat) : IsIsIn (evCall Ps (k + 1)) 2 := fun a b S => call_ok (d := ⟨2, 2, bIsIn⟩) rfl isIn_ok
theorem f3 (k : Nat) : IsAllOf (evCall Ps (k + 1)) 3 := fun n S h => call_ok (d := ⟨1, 1, bAllOf⟩) rfl (allOf_ok h)
theorem f4 (k : Nat) : IsOrdered (evCall Ps (k + 1)) 4 := fun n S h => call_ok (d := ⟨5, 1, bOrdered⟩) rfl (ordered_ok h)
theorem f5 (k : Nat) : IsLeast (evCall Ps (k + 2)) 5 := fun n R rs S h1 h2 h3 => call_ok (d := ⟨7, 2, bLeast 3⟩) rfl (least_ok h1 h2 h3 fun S => f3 k n S (by omega))
theorem f6 (k : Nat) : IsFixed (evCall Ps (k + 2)) 6 := fun n F G S h1 h2 => call_ok (d := ⟨3, 2, bFixed 4 1⟩) rfl (fixed_ok (f4 k) (f1 k) h1 h2)
theorem f7 (k : Nat) : IsMeet (evCall Ps (k + 2)) 7 := fun n L rs S h1 h2 h3 => call_ok (d := ⟨4, 2, bMeet 3 0 1⟩) rfl (meet_ok (f3 k) (f0 k) (f1 k) h1 h2 h3)
theorem f8 (k : Nat) : IsAllMeets (evCall Ps (k + 3)) 8 := fun n rs S T => call_ok (d := ⟨4, 1, bAllMeets 5 0⟩) rfl (allMeets_ok (f5 k) (f0 (k + 1)) T)
theorem f9 (k : Nat) : IsMeets (evCall Ps (k + 4)) 9 := fun n rs S T => call_ok (d := ⟨1, 1, bMeets 6 8⟩) rfl (meets_ok (f6 (k + 1)) (f8 k) T)
theorem f10 (k : Nat) : IsMeetOf (evCall Ps (k + 3)) 10 := fun n rs ps S T h1 h2 => call_ok (d := ⟨5, 2, bMeetOf 7⟩) rfl (meetOf_ok (f7 k) T h1 h2)
theorem f11 (k : Nat) : IsSharing (evCall Ps (k + 2)) 11 := fun R m rs S h1 h2 => call_ok (d := ⟨4, 2, bSharing 2⟩) rfl (sharing_ok (f2 k) h1 h2)
theorem f12 (k : Nat) : IsShared (evCall Ps (k + 3)) 12 := fun n rs xs S T h => call_ok (d := ⟨3, 2, bShared 11 0⟩) rfl (shared_ok (f11 k) (f0 (k + 1)) T h)
theorem f13 (k : Nat) : IsIsMeet (evCall Ps (k + 4)) 13 := fun n rs xs S T h => call_ok (d := ⟨2, 2, bIsMeet 10 12⟩) rfl (isMeet_ok (f10 k) (f12 k) T h)
theorem f14 (k : Nat) : IsPairs (evCall Ps (k + 5)) 14 := fun n rs S T => call_ok (d := ⟨4, 1, bPairs 0 9 11⟩) rfl (pairs_ok (f0 (k + 3)) (f9 k) (f11 (k + 2)) T)
theorem f15 (k : Nat) : IsSpring (evCall Ps (k + 1)) 15 := fun ns S h => call_ok (d := ⟨3, 1, bSpring⟩) rfl (spring_ok h)
theorem f16 (k : Nat) : IsDraw (evCall Ps (k + 1)) 16 := fun r g kn many S h1 h2 h3 => call_ok (d := ⟨6, 2, bDraw⟩) rfl (draw_ok h1 h2 h3)
theorem f17 (k : Nat) : IsPick (evCall Ps (k + 2)) 17 := fun r g kn n xs S h1 h2 h3 h4 h5 h6 => call_ok (d := ⟨2, 2, bPick 16⟩) rfl (pick_ok (f16 k) h1 h2 h3 h4 h5 h6)
theorem f18 (k : Nat) : IsSome (evCall Ps (k + 2)) 18 := fun r g kn wide many S h1 h2 h3 => call_ok (d := ⟨5, 3, bSome 16⟩) rfl (some_ok (f16 k) h1 h2 h3)
theorem f19 (k : Nat) : IsLawLot (evCall Ps (k + 1)) 19 := fun m S h => call_ok (d := ⟨2, 1, bLawLot⟩) rfl (lawLot_ok h)
theorem f20 (k : Nat) : IsRows (evCall Ps (k + 3)) 20 := fun r g kn wide many S h1 h2 h3 => call_ok (d := ⟨9, 3, bRows 16 18 17⟩) rfl (rows_law (f16 (k + 1)) (f18 k) (f17 k) h1 h2 h3)
theorem f21 (k : Nat) : IsSheet (evCall Ps (k + 2)) 21 := fun n R rs S h1 h2 h3 => call_ok (d := ⟨3, 2, bSheet 19⟩) rfl (sheet_ok (f19 k) h1 h2 h3)
theorem f22 (k : Nat) : IsHaving (evCall Ps (k + 1)) 22 := fun R m rs S h1 h2 => call_ok (d := ⟨4, 2, bHaving⟩) rfl (having_ok h1 h2)
theorem f23 (k : Nat) : IsCommon (evCall Ps (k + 1)) 23 := fun n R rs ps S h1 h2 h3 => call_ok (d := ⟨5, 3, bCommon⟩) rfl (common_ok h1 h2 h3)
theorem f26 (k : Nat) : IsRank (evCall Ps (k + 1)) 26 := fun a y S => call_ok (d := ⟨1, 1, bRank⟩) rfl rank_ok
theorem f24 (k : Nat) : IsDue (evCall Ps (k + 2)) 24 64 := fun n R rs S h1 h2 h3 h4 => call_ok (d := ⟨5, 2, bByLots 22 23 19 26⟩) rfl (byLots_ok (f22 k) (f23 k) (f19 k) (f26 k) h1 h3 h4)
theorem f25 (k : Nat) : IsDue (evCall Ps (k + 2)) 25 10 := fun n R rs S h1 h2 h3 h4 => call_ok (d := ⟨7, 2, bByPlaces 23 22 19 26⟩) rfl (byPlaces_ok (f23 k) (f22 k) (f19 k) (f26 k) h1 h2 h3 h4)
theorem f27 (k : Nat) : IsAsking (evCall Ps (k + 5)) 27 := fun n R A rs as S T h1 h2 h3 => call_ok (d := ⟨9, 3, bAsking 19 22 23 12 10 13⟩) rfl (asking_ok (f19 (k + 3)) (f22 (k + 3)) (f23 (k + 3)) (f12 (k + 1)) (f10 (k + 1)) (f13 k) T h1 h2 h3)
theorem f28 (k : Nat) : IsChoice (evCall Ps (k + 4)) 28 := fun r g kn n R rs S h1 h2 h3 T h4 => call_ok (d := ⟨7, 3, bChoice 16 19 23 10⟩) rfl (choice_ok (f16 (k + 2)) (f19 (k + 2)) (f23 (k + 2)) (f10 k) h1 h2 h3 T h4)
theorem f29 (k : Nat) : IsTurning (evCall Ps (k + 6)) 29 := fun n R rs S T h1 h2 => call_ok (d := ⟨10, 3, bTurning 22 26 14 9 12 19⟩) rfl (turning_ok (f22 (k + 4)) (f26 (k + 4)) (f14 k) (f9 (k + 1)) (f12 (k + 2)) (f19 (k + 4)) T h1 h2)
theorem f30 (k : Nat) : IsRight (evCall Ps (k + 7)) 30 := fun r g kn n R rs S h1 h2 h3 T h4 => call_ok (d := ⟨9, 4, bRight 21 14 12 10 16 18 27 28 29 9⟩) rfl (right_ok (f21 (k + 4)) (f14 (k + 1)) (f12 (k + 3)) (f10 (k + 3)) (f16 (k + 5)) (f18 (k + 4)) (f27 (k + 1)) (f28 (k + 2)) (f29 k) (f9 (k + 2)) h1 h2 h3 T h4)
theorem law_ok (ns : List Int) (h : ns.length ≤ 63) : ∃ S', evCall Ps 16 31 [.frz (ns.map .int)] [] = some (.bl true, S') := by
  have z : Ok (evCall Ps 16 31 [.frz (ns.map .int)] []) fun p => p.1 = .bl true := call_ok (k := 15) (d := ⟨9, 1, bLaw22⟩) rfl (Prog.law_ok (f12 12) (f14 10) (f15 14) (f16 14) (f17 13) (f20 12) (f24 13) (f25 13) (f30 8) h)
  obtain ⟨⟨d, S'⟩, e, h2⟩ := z
  dsimp only at h2
  subst h2
  exact ⟨S', e⟩
end K22

set_option Elab.async false
set_option linter.all false
set_option maxRecDepth 100000
open PySem PySem.W PyProof.Rows L2 Ev
set_option maxHeartbeats 0 in
theorem PySem.Challenge.cw_meetlots_k22_shared_and_closed_pairs_bot_holds : PySem.Challenge.rw_meetlots_k22_shared_and_closed_pairs_bot.Holds := by
  w_on; o_law; k_head; (case hw => w_witness2)
  k_fill
  refine walkG (l := PySem.Challenge.rw_meetlots_k22_shared_and_closed_pairs_bot) (n := 63) (k := 16) (x := "_law_script") (Ps := K22.Ps) (i := 31) rfl (by decide) rfl ⟨rfl, by decide, by decide⟩ (fun w h Y => PySem.W.kIn_of Y) ?F K22.law_ok
  case F =>
    intro w mg fa h KX G hmg
    refine' sheet_F K22.sheet (e := ⟨("law" : Str), K22.st 35, [("_law_script" : Str), ("_law_spring_here" : Str), ("_law_turn" : Str), ("_law_masks" : Str), ("_law_sheet_here" : Str), ("_law_found" : Str), ("_law_due" : Str), ("_law_wide" : Str), ("_law_one" : Str)], [("_law_script" : Str)], K22.i31⟩) 16 rfl rfl KX G hmg (at_cons ?f0 (at_cons ?f1 (at_cons ?f2 (at_cons ?f3 (at_cons ?f4 (at_cons ?f5 (at_cons ?f6 (at_cons ?f7 (at_cons ?f8 (at_cons ?f9 (at_cons ?f10 (at_cons ?f11 (at_cons ?f12 (at_cons ?f13 (at_cons ?f14 (at_cons ?f15 (at_cons ?f16 (at_cons ?f17 (at_cons ?f18 (at_cons ?f19 (at_cons ?f20 (at_cons ?f21 (at_cons ?f22 (at_cons ?f23 (at_cons ?f24 (at_cons ?f25 (at_cons ?f26 (at_cons ?f27 (at_cons ?f28 (at_cons ?f29 (at_cons ?f30 (at_cons ?f31 (at_nil))))))))))))))))))))))))))))))))) (in_cons ?z0 (in_cons ?z1 (in_cons ?z2 (in_cons ?z3 (in_cons ?z4 (in_cons ?z5 (in_cons ?z6 (in_cons ?z7 (in_cons ?z8 (in_cons ?z9 (in_nil)))))))))))
    case f0 => (refine' fact_mk (x := ("mask_of" : Str)) (st := K22.st 1) ?a ?l ?c ?k; (case a => k_is); (case l => k_is); (case c => k_is); (case k => k_is))
    case f1 => (refine' fact_mk (x := ("lot_of" : Str)) (st := K22.st 2) ?a ?l ?c ?k; (case a => k_is); (case l => k_is); (case c => k_is); (case k => k_is))
    case f2 => (refine' fact_mk (x := ("is_in" : Str)) (st := K22.st 3) ?a ?l ?c ?k; (case a => k_is); (case l => k_is); (case c => k_is); (case k => k_is))
    case f3 => (refine' fact_mk (x := ("all_of" : Str)) (st := K22.st 4) ?a ?l ?c ?k; (case a => k_is); (case l => k_is); (case c => k_is); (case k => k_is))
    case f4 => (refine' fact_mk (x := ("ordered_masks" : Str)) (st := K22.st 5) ?a ?l ?c ?k; (case a => k_is); (case l => k_is); (case c => k_is); (case k => k_is))
    case f5 => (refine' fact_mk (x := ("least_meets" : Str)) (st := K22.st 6) ?a ?l ?c ?k; (case a => k_is); (case l => k_is); (case c => k_is); (case k => k_is))
    case f6 => (refine' fact_mk (x := ("fixed_lots" : Str)) (st := K22.st 7) ?a ?l ?c ?k; (case a => k_is); (case l => k_is); (case c => k_is); (case k => k_is))
    case f7 => (refine' fact_mk (x := ("meet" : Str)) (st := K22.st 9) ?a ?l ?c ?k; (case a => k_is); (case l => k_is); (case c => k_is); (case k => k_is))
    case f8 => (refine' fact_mk (x := ("_all_meets" : Str)) (st := K22.st 11) ?a ?l ?c ?k; (case a => k_is); (case l => k_is); (case c => k_is); (case k => k_is))
    case f9 => (refine' fact_mk (x := ("meets" : Str)) (st := K22.st 12) ?a ?l ?c ?k; (case a => k_is); (case l => k_is); (case c => k_is); (case k => k_is))
    case f10 => (refine' fact_mk (x := ("meet_of" : Str)) (st := K22.st 13) ?a ?l ?c ?k; (case a => k_is); (case l => k_is); (case c => k_is); (case k => k_is))
    case f11 => (refine' fact_mk (x := ("_sharing" : Str)) (st := K22.st 14) ?a ?l ?c ?k; (case a => k_is); (case l => k_is); (case c => k_is); (case k => k_is))
    case f12 => (refine' fact_mk (x := ("shared" : Str)) (st := K22.st 15) ?a ?l ?c ?k; (case a => k_is); (case l => k_is); (case c => k_is); (case k => k_is))
    case f13 => (refine' fact_mk (x := ("is_meet" : Str)) (st := K22.st 16) ?a ?l ?c ?k; (case a => k_is); (case l => k_is); (case c => k_is); (case k => k_is))
    case f14 => (refine' fact_mk (x := ("closed_pairs" : Str)) (st := K22.st 17) ?a ?l ?c ?k; (case a => k_is); (case l => k_is); (case c => k_is); (case k => k_is))
    case f15 => (refine' fact_mk (x := ("_law_spring" : Str)) (st := K22.st 19) ?a ?l ?c ?k; (case a => k_is); (case l => k_is); (case c => k_is); (case k => k_is))
    case f16 => (refine' fact_mk (x := ("_law_draw" : Str)) (st := K22.st 20) ?a ?l ?c ?k; (case a => k_is); (case l => k_is); (case c => k_is); (case k => k_is))
    case f17 => (refine' fact_mk (x := ("_law_pick" : Str)) (st := K22.st 21) ?a ?l ?c ?k; (case a => k_is); (case l => k_is); (case c => k_is); (case k => k_is))
    case f18 => (refine' fact_mk (x := ("_law_some" : Str)) (st := K22.st 22) ?a ?l ?c ?k; (case a => k_is); (case l => k_is); (case c => k_is); (case k => k_is))
    case f19 => (refine' fact_mk (x := ("_law_lot" : Str)) (st := K22.st 23) ?a ?l ?c ?k; (case a => k_is); (case l => k_is); (case c => k_is); (case k => k_is))
    case f20 => (refine' fact_mk (x := ("_law_rows" : Str)) (st := K22.st 24) ?a ?l ?c ?k; (case a => k_is); (case l => k_is); (case c => k_is); (case k => k_is))
    case f21 => (refine' fact_mk (x := ("_law_sheet" : Str)) (st := K22.st 25) ?a ?l ?c ?k; (case a => k_is); (case l => k_is); (case c => k_is); (case k => k_is))
    case f22 => (refine' fact_mk (x := ("_law_having" : Str)) (st := K22.st 26) ?a ?l ?c ?k; (case a => k_is); (case l => k_is); (case c => k_is); (case k => k_is))
    case f23 => (refine' fact_mk (x := ("_law_common" : Str)) (st := K22.st 27) ?a ?l ?c ?k; (case a => k_is); (case l => k_is); (case c => k_is); (case k => k_is))
    case f24 => (refine' fact_mk (x := ("_law_by_lots" : Str)) (st := K22.st 28) ?a ?l ?c ?k; (case a => k_is); (case l => k_is); (case c => k_is); (case k => k_is))
    case f25 => (refine' fact_mk (x := ("_law_by_places" : Str)) (st := K22.st 29) ?a ?l ?c ?k; (case a => k_is); (case l => k_is); (case c => k_is); (case k => k_is))
    case f26 => (refine' fact_mk (x := ("_law_pair_rank" : Str)) (st := K22.st 30) ?a ?l ?c ?k; (case a => k_is); (case l => k_is); (case c => k_is); (case k => k_is))
    case f27 => (refine' fact_mk (x := ("_law_by_asking" : Str)) (st := K22.st 31) ?a ?l ?c ?k; (case a => k_is); (case l => k_is); (case c => k_is); (case k => k_is))
    case f28 => (refine' fact_mk (x := ("_law_by_choice" : Str)) (st := K22.st 32) ?a ?l ?c ?k; (case a => k_is); (case l => k_is); (case c => k_is); (case k => k_is))
    case f29 => (refine' fact_mk (x := ("_law_by_turning" : Str)) (st := K22.st 33) ?a ?l ?c ?k; (case a => k_is); (case l => k_is); (case c => k_is); (case k => k_is))
    case f30 => (refine' fact_mk (x := ("_law_is_right" : Str)) (st := K22.st 34) ?a ?l ?c ?k; (case a => k_is); (case l => k_is); (case c => k_is); (case k => k_is))
    case f31 => (refine' fact_mk (x := ("law" : Str)) (st := K22.st 35) ?a ?l ?c ?k; (case a => k_is); (case l => k_is); (case c => k_is); (case k => k_is))
    case z0 => (show PySem.W.nsIn _ mainGlobals ("tuple" : Str) = some none; k_is)
    case z1 => (show PySem.W.nsIn _ mainGlobals ("range" : Str) = some none; k_is)
    case z2 => (show PySem.W.nsIn _ mainGlobals ("list" : Str) = some none; k_is)
    case z3 => (show PySem.W.nsIn _ mainGlobals ("sum" : Str) = some none; k_is)
    case z4 => (show PySem.W.nsIn _ mainGlobals ("int" : Str) = some none; k_is)
    case z5 => (show PySem.W.nsIn _ mainGlobals ("sorted" : Str) = some none; k_is)
    case z6 => (show PySem.W.nsIn _ mainGlobals ("len" : Str) = some none; k_is)
    case z7 => (show PySem.W.nsIn _ mainGlobals ("repr" : Str) = some none; k_is)
    case z8 => (show PySem.W.nsIn _ mainGlobals ("enumerate" : Str) = some none; k_is)
    case z9 => (show PySem.W.nsIn _ mainGlobals ("abs" : Str) = some none; k_is)

