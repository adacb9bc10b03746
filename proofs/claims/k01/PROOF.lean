import PyProof.Rows.All
import Wide.All
import OpenK.AllK
import Wide.FinOn
import HandS.ForMost
import HandS.Wide
import HandS.Deep
import HandS.Zip
import HandS.IsInst
import HandS.Defaults
import HandS.More
import HandS.Style
import HandS.Evl
import HandS.TupAny
import HandS.MakeKwOnly
import HandS.RaiseMore
import HandS.Replace
import HandS.ForExc
import HandS.ExcInit
import HandS.ExcField
import HandS.ExcValue
import HandS.Codes
import KE.KExcIs
import KE.KExcInit
import PyProof.ReprBulk
import PyProof.ExcBaseAll.IndexError
import PyProof.ExcBaseAll.LookupError
import PySem.Challenge.RW_ownrail_k01_refusals
set_option Elab.async false
set_option linter.all false
set_option maxRecDepth 100000
set_option maxHeartbeats 4000000
/-! what every proof here leans on: data made of tuples, which no store can change -/
namespace OR
open PySem PySem.Spec PyProof.Rows L2

theorem hu65 {A : Around} {k : Nat} (hr : Room k A) : A.units + 65 < cLine := by
  have := hr.un
  omega

/-! ### tuples stay -/
def Tk (H H' : Hp) : Prop := ∀ a xs, Rd H a (.tup xs) → Rd H' a (.tup xs)
theorem Tk.refl (H : Hp) : Tk H H := fun _ _ h => h
theorem Tk.trans {H H1 H2 : Hp} (a : Tk H H1) (b : Tk H1 H2) : Tk H H2 := fun x o h => b x o (a x o h)
theorem tk_same {H H' : Hp} (e : Same H H') : Tk H H' := fun a xs h => by
  rcases h with h | ⟨o, h⟩
  · exact .inl (e _ _ h)
  · exact .inr ⟨o, e _ _ h⟩
theorem tk_seq {K : PySem.W.Frag} {H H' : Hp} {a : Addr} {xs : List V} (e : Tk H H') (h : SqT K H a xs) : SqT K H' a xs := by
  rcases h with h | h
  · exact .inl (e _ _ h)
  · exact .inr h
theorem same_new {H : Hp} {p : Addr} {o : HO} (h : H p = none) : Same H (upd H p o) := fun b x e => by
  rw [upd_ne (ne_of_none e h)]
  exact e
theorem tk_new {H : Hp} {p : Addr} {o : HO} (h : H p = none) : Tk H (upd H p o) := tk_same (same_new h)
/-- all but the object at b is as it was -/
def But (b : Addr) (H H' : Hp) : Prop := ∀ a o, a ≠ b → H a = some o → H' a = some o
theorem But.refl (b : Addr) (H : Hp) : But b H H := fun _ _ _ h => h
theorem But.trans {b : Addr} {H H1 H2 : Hp} (x : But b H H1) (y : But b H1 H2) : But b H H2 := fun a o n h => y a o n (x a o n h)
theorem but_same {b : Addr} {H H' : Hp} (e : Same H H') : But b H H' := fun a o _ h => e a o h
theorem but_set {b : Addr} {H : Hp} {o : HO} : But b H (upd H b o) := fun a u n h => by
  rw [upd_ne n]
  exact h
theorem tk_set {H : Hp} {b : Addr} {xs : List V} {o : HO} (hb : H b = some (.lst xs)) : Tk H (upd H b o) := fun a ys h => by
  have n : a ≠ b := fun z => by
    subst z
    rcases h with h | ⟨u, h⟩
    · rw [hb] at h
      cases h
    · rw [hb] at h
      cases h
  rcases h with h | ⟨u, h⟩
  · exact .inl (by rw [upd_ne n]; exact h)
  · exact .inr ⟨u, by rw [upd_ne n]; exact h⟩
theorem tk_but {H H' : Hp} {b : Addr} {xs : List V} (hb : H b = some (.lst xs)) (e : But b H H') : Tk H H' := fun a ys h => by
  have n : a ≠ b := fun z => by
    subst z
    rcases h with h | ⟨u, h⟩
    · rw [hb] at h
      cases h
    · rw [hb] at h
      cases h
  rcases h with h | ⟨u, h⟩
  · exact .inl (e _ _ n h)
  · exact .inr ⟨u, e _ _ n h⟩

/-! ### data of tuples, ints, texts, truths, None -/
mutual
inductive DT (K : PySem.W.Frag) (H : Hp) : V → PyData → Prop
  | non : DT K H .non .none
  | bl (b : Bool) : DT K H (.bl b) (.bool b)
  | int (i : Int) : DT K H (.int i) (.int i)
  | str (x : Str) : DT K H (.str x) (.str x)
  | tup {a : Addr} {xs : List V} {ds : List PyData} : SqT K H a xs → DTs K H xs ds → DT K H (.ref a) (.tuple ds)
inductive DTs (K : PySem.W.Frag) (H : Hp) : List V → List PyData → Prop
  | nil : DTs K H [] []
  | cons {v : V} {vs : List V} {d : PyData} {ds : List PyData} : DT K H v d → DTs K H vs ds → DTs K H (v :: vs) (d :: ds)
end
section
variable {K : PySem.W.Frag} {H H' : Hp}
mutual
theorem DT.mono (e : Tk H H') : ∀ (d : PyData) (v : V), DT K H v d → DT K H' v d
  | .none, _, h => by cases h; exact .non
  | .bool b, _, h => by cases h; exact .bl b
  | .int i, _, h => by cases h; exact .int i
  | .str x, _, h => by cases h; exact .str x
  | .tuple ds, _, h => by
    cases h with
    | tup hs ha => exact .tup (tk_seq e hs) (DTs.mono e ds _ ha)
  | .list _, _, h => by cases h
  | .dict _, _, h => by cases h
theorem DTs.mono (e : Tk H H') : ∀ (ds : List PyData) (vs : List V), DTs K H vs ds → DTs K H' vs ds
  | [], _, h => by cases h; exact .nil
  | d :: ds, _, h => by
    cases h with
    | cons h1 h2 => exact .cons (DT.mono e d _ h1) (DTs.mono e ds _ h2)
end
mutual
theorem DT.dp : ∀ (d : PyData) (v : V), DT K H v d → Dp K H v d
  | .none, _, h => by cases h; exact .non
  | .bool b, _, h => by cases h; exact .bl b
  | .int i, _, h => by cases h; exact .int i
  | .str x, _, h => by cases h; exact .str x
  | .tuple ds, _, h => by
    cases h with
    | tup hs ha => exact .tup hs (DTs.dp ds _ ha)
  | .list _, _, h => by cases h
  | .dict _, _, h => by cases h
theorem DTs.dp : ∀ (ds : List PyData) (vs : List V), DTs K H vs ds → DpAll K H vs ds
  | [], _, h => by cases h; exact .nil
  | d :: ds, _, h => by
    cases h with
    | cons h1 h2 => exact .cons (DT.dp d _ h1) (DTs.dp ds _ h2)
end
theorem DT.up {v : V} {d : PyData} (h : DT K H v d) (e : Tk H H') : DT K H' v d := DT.mono e d v h
theorem DTs.up {vs : List V} {ds : List PyData} (h : DTs K H vs ds) (e : Tk H H') : DTs K H' vs ds := DTs.mono e ds vs h
theorem DTs.length {vs : List V} : ∀ {ds : List PyData}, DTs K H vs ds → vs.length = ds.length := by
  induction vs with
  | nil => intro ds h; cases h; rfl
  | cons v vs ih =>
    intro ds h
    cases h with
    | cons h1 h2 => rw [List.length_cons, List.length_cons, ih h2]
theorem DTs.get {vs : List V} : ∀ {ds : List PyData} {i : Nat} {d : PyData}, DTs K H vs ds → ds[i]? = some d → ∃ v, vs[i]? = some v ∧ DT K H v d := by
  induction vs with
  | nil => intro ds i d h e; cases h; simp at e
  | cons v vs ih =>
    intro ds i d h e
    cases h with
    | cons h1 h2 =>
      cases i with
      | zero => simp at e; subst e; exact ⟨v, rfl, h1⟩
      | succ i =>
        obtain ⟨u, q1, q2⟩ := ih h2 (i := i) (d := d) (by simpa using e)
        exact ⟨u, by simpa using q1, q2⟩
theorem DTs.getV {vs : List V} : ∀ {ds : List PyData} {i : Nat} {v : V}, DTs K H vs ds → vs[i]? = some v → ∃ d, ds[i]? = some d ∧ DT K H v d := by
  induction vs with
  | nil => intro ds i d h e; simp at e
  | cons u vs ih =>
    intro ds i d h e
    cases h with
    | cons h1 h2 =>
      cases i with
      | zero => simp at e; subst e; exact ⟨_, rfl, h1⟩
      | succ i =>
        obtain ⟨u, q1, q2⟩ := ih h2 (i := i) (v := d) (by simpa using e)
        exact ⟨u, by simpa using q1, q2⟩
theorem DTs.append {vs ws : List V} {ds es : List PyData} (h : DTs K H vs ds) (h2 : DTs K H ws es) : DTs K H (vs ++ ws) (ds ++ es) := by
  induction vs generalizing ds with
  | nil => cases h; exact h2
  | cons v vs ih =>
    cases h with
    | cons a b => exact .cons a (ih b)
theorem DTs.take {vs : List V} {ds : List PyData} (n : Nat) (h : DTs K H vs ds) : DTs K H (vs.take n) (ds.take n) := by
  induction vs generalizing ds n with
  | nil => cases h; rw [List.take_nil, List.take_nil]; exact .nil
  | cons v vs ih =>
    cases h with
    | cons a b =>
      cases n with
      | zero => exact .nil
      | succ n => exact .cons a (ih n b)
theorem DTs.drop {vs : List V} {ds : List PyData} (n : Nat) (h : DTs K H vs ds) : DTs K H (vs.drop n) (ds.drop n) := by
  induction vs generalizing ds n with
  | nil => cases h; rw [List.drop_nil, List.drop_nil]; exact .nil
  | cons v vs ih =>
    cases h with
    | cons a b =>
      cases n with
      | zero => exact .cons a b
      | succ n => exact ih n b
theorem DT.tupOf {v : V} {ds : List PyData} (h : DT K H v (.tuple ds)) : ∃ a xs, v = .ref a ∧ SqT K H a xs ∧ DTs K H xs ds := by
  cases h with
  | tup hs ha => exact ⟨_, _, rfl, hs, ha⟩
theorem DT.intOf {v : V} {i : Int} (h : DT K H v (.int i)) : v = .int i := by cases h; rfl
theorem DT.strOf {v : V} {i : Str} (h : DT K H v (.str i)) : v = .str i := by cases h; rfl
theorem DT.blOf {v : V} {i : Bool} (h : DT K H v (.bool i)) : v = .bl i := by cases h; rfl
theorem DTs.one {vs : List V} {d : PyData} (h : DTs K H vs [d]) : ∃ v, vs = [v] ∧ DT K H v d := by
  cases h with
  | cons a b => cases b; exact ⟨_, rfl, a⟩
theorem DTs.two {vs : List V} {d e : PyData} (h : DTs K H vs [d, e]) : ∃ v u, vs = [v, u] ∧ DT K H v d ∧ DT K H u e := by
  cases h with
  | cons a b =>
    obtain ⟨u, rfl, q⟩ := b.one
    exact ⟨_, u, rfl, a, q⟩
theorem DTs.five {vs : List V} {a b c d e : PyData} (h : DTs K H vs [a, b, c, d, e]) : ∃ v1 v2 v3 v4 v5, vs = [v1, v2, v3, v4, v5] ∧ DT K H v1 a ∧ DT K H v2 b ∧ DT K H v3 c ∧ DT K H v4 d ∧ DT K H v5 e := by
  cases h with
  | cons h1 h => cases h with
    | cons h2 h => cases h with
      | cons h3 h =>
        obtain ⟨v4, v5, rfl, h4, h5⟩ := h.two
        exact ⟨_, _, _, _, _, rfl, h1, h2, h3, h4, h5⟩
theorem DT.new {p : Addr} {xs : List V} {ds : List PyData} (h : DTs K H xs ds) (n : H p = none) : DT K (upd H p (.tup xs)) (.ref p) (.tuple ds) := .tup (SqT.of upd_same) (h.up (tk_new n))
end

/-! ### squares, rails, engines -/
inductive Sh where
  | l | s | r
  deriving DecidableEq
def Sh.str : Sh → Str
  | .l => "l"
  | .s => "s"
  | .r => "r"
def Sh.t : Sh → Int
  | .l => -1
  | .s => 0
  | .r => 1
def sq (p : Int × Int) : PyData := .tuple [.int p.1, .int p.2]
def rail (r : Sh × Int) : PyData := .tuple [.str r.1.str, .int r.2]
def eng (x y way look : Int) (rs : List (Sh × Int)) : PyData := .tuple [.int x, .int y, .int way, .int look, .tuple (rs.map rail)]
def tn (w : Int) (s : Sh) : Int := (w + s.t) % 4
def tb (w : Int) (s : Sh) : Int := (w - s.t) % 4
def dx (w : Int) : Int := if w = 1 then 1 else if w = 3 then -1 else 0
def dy (w : Int) : Int := if w = 0 then 1 else if w = 2 then -1 else 0
def on (p : Int × Int) (w : Int) : Int × Int := (p.1 + dx w, p.2 + dy w)
theorem tn_lo (w : Int) (s : Sh) : 0 ≤ tn w s := Int.emod_nonneg _ (by decide)
theorem tn_hi (w : Int) (s : Sh) : tn w s ≤ 3 := by
  have h : (w + s.t) % 4 < 4 := Int.emod_lt_of_pos _ (by decide)
  unfold tn
  omega
theorem tb_lo (w : Int) (s : Sh) : 0 ≤ tb w s := Int.emod_nonneg _ (by decide)
theorem tb_hi (w : Int) (s : Sh) : tb w s ≤ 3 := by
  have h : (w - s.t) % 4 < 4 := Int.emod_lt_of_pos _ (by decide)
  unfold tb
  omega
theorem way4 {w : Int} (h0 : 0 ≤ w) (h3 : w ≤ 3) : w = 0 ∨ w = 1 ∨ w = 2 ∨ w = 3 := by omega

/-! ### a law's box -/
def Box (H : Hp) (b : Addr) : Prop := ∃ i s c : Int, H b = some (.lst [.int i, .int s, .int c])
def spTake : Sp := fun vs H Q _ => ∃ (b : Addr) (m : Int), vs = [.ref b, .int m] ∧ Box H b ∧ 0 < m ∧ m < 2 ^ 64 ∧ ∀ r H', 0 ≤ r → r < m → But b H H' → Box H' b → Q (.int r) H'
def spBox (K : PySem.W.Frag) : Sp := fun vs H Q _ => ∃ (a : Addr) (ns : List Int) (k : Int), vs = [.ref a, .int k] ∧ SqL K H a (ns.map V.int) ∧ 0 ≤ k ∧ k < 2 ^ 60 ∧ ∀ b H', H b = none → Same H H' → Box H' b → Q (.ref b) H'
theorem mod_in {a m : Int} (h : 0 < m) : 0 ≤ a % m ∧ a % m < m := ⟨Int.emod_nonneg _ (by omega), Int.emod_lt_of_pos _ h⟩
theorem div_ok {i m : Int} (h : 0 < m) (h2 : m < 2 ^ 64) : CDivW i m := wide_div (b := 64) h (by omega) (by decide) (by decide)
theorem But.up {b : Addr} {H H' : Hp} {v : V} {d : PyData} {K : PySem.W.Frag} (e : But b H H') (hb : Box H b) (h : DT K H v d) : DT K H' v d := by
  obtain ⟨i, s, c, hb⟩ := hb
  exact h.up (tk_but hb e)
theorem atI_ints {ns : List Int} {k : Int} (h0 : 0 ≤ k) (h : k < (ns.length : Int)) : ∃ z, atI (ns.map V.int) k = some (.int z) := by
  obtain ⟨j, rfl⟩ := Int.eq_ofNat_of_zero_le h0
  have hj : j < ns.length := by omega
  exact ⟨ns[j], atI_nat (by rw [List.getElem?_map, List.getElem?_eq_getElem hj]; rfl)⟩

/-! ### == of squares -/
theorem eqv_sq (p q : Int × Int) : PyData.eqv (sq p) (sq q) = decide (p = q) := by
  obtain ⟨a, b⟩ := p
  obtain ⟨c, d⟩ := q
  simp only [sq, PyData.eqv, PyData.eqvAll, Bool.and_true]
  by_cases h : (a, b) = (c, d)
  · cases h
    simp
  · rw [decide_eq_false h]
    rw [Bool.and_eq_false_iff]
    by_cases h1 : a = c
    · right
      subst h1
      have : b ≠ d := fun z => h (by rw [z])
      simpa using this
    · left
      simpa using h1
theorem any_sq (p : Int × Int) : ∀ qs : List (Int × Int), ((qs.map sq).any fun z => PyData.eqv z (sq p)) = decide (p ∈ qs)
  | [] => by simp
  | q :: qs => by
    rw [List.map_cons, List.any_cons, any_sq p qs, eqv_sq]
    by_cases h : q = p
    · subst h
      simp
    · have h' : ¬ p = q := fun z => h z.symm
      simp [h, h']
theorem lay_sq (p : Int × Int) : (sq p).canLay0 = true := rfl
theorem lay_sqs : ∀ qs : List (Int × Int), PyData.canLayAll0 (qs.map sq) = true
  | [] => rfl
  | q :: qs => by
    rw [List.map_cons, PyData.canLayAll0, lay_sq, lay_sqs qs]
    rfl
theorem dep_sqs : ∀ qs : List (Int × Int), PyData.depthAll (qs.map sq) ≤ 3
  | [] => by simp [PyData.depthAll]
  | q :: qs => by
    have h := dep_sqs qs
    rw [List.map_cons, PyData.depthAll]
    have h2 : (sq q).depth ≤ 3 := by simp [sq, PyData.depth, PyData.depthAll]
    omega
theorem shaped_sq (p : Int × Int) : SeqAt.shaped (sq p) = true := by
  obtain ⟨a, b⟩ := p
  simp [SeqAt.shaped, sq, PyData.canLay0, PyData.canLayAll0, PyData.depth, PyData.depthAll]
theorem shaped_sqs (qs : List (Int × Int)) : SeqAt.shaped (.list (qs.map sq)) = true := by
  have h := dep_sqs qs
  have h2 := lay_sqs qs
  unfold SeqAt.shaped
  rw [PyData.canLay0, h2, PyData.depth, decide_eq_true (by omega)]
  rfl

/-! ### the road walked -/
def wst (x y w : Int) (rs : List (Sh × Int)) : List (Int × Int) × Int := rs.foldl (fun a r => (a.1 ++ [on (a.1.getLastD (0, 0)) (tn a.2 r.1)], tn a.2 r.1)) ([(x, y)], w)
theorem wst_snoc (x y w : Int) (rs : List (Sh × Int)) (r : Sh × Int) : wst x y w (rs ++ [r]) = ((wst x y w rs).1 ++ [on ((wst x y w rs).1.getLastD (0, 0)) (tn (wst x y w rs).2 r.1)], tn (wst x y w rs).2 r.1) := by
  unfold wst
  rw [List.foldl_append]
  rfl
theorem getLastD_snoc {α : Type} (l : List α) (a d : α) : (l ++ [a]).getLastD d = a := by
  rw [List.getLastD_eq_getLast?, List.getLast?_concat]
  rfl
/-- an engine as a law draws it -/
structure Drawn (x y w look : Int) (rs : List (Sh × Int)) : Prop where
  w0 : 0 ≤ w
  w3 : w ≤ 3
  lk : look = 1 ∨ look = -1
  ne : rs ≠ []
  ln : rs.length ≤ 12
  col : ∀ r ∈ rs, 0 ≤ r.2 ∧ r.2 ≤ 9
  nd : ((wst x y w rs).1.dropLast).Nodup
def spTurn : Sp := fun vs H Q _ => ∃ (w : Int) (s : Sh), vs = [.int w, .str s.str] ∧ ∀ H', Same H H' → Q (.int (tn w s)) H'
def spOn (K : PySem.W.Frag) : Sp := fun vs H Q _ => ∃ (v : V) (p : Int × Int) (w : Int), vs = [v, .int w] ∧ DT K H v (sq p) ∧ 0 ≤ w ∧ w ≤ 3 ∧ ∀ v' H', Same H H' → DT K H' v' (sq (on p w)) → Q v' H'
def spEngine (K : PySem.W.Frag) : Sp := fun vs H Q _ => ∃ (b : Addr) (m far : Int), vs = [.ref b, .int m, .int far] ∧ Box H b ∧ 0 < m ∧ m ≤ 12 ∧ 0 ≤ far ∧ far ≤ 1000000000 ∧
  ∀ v H' x y w look rs, Drawn x y w look rs → -far ≤ x → x ≤ far → -far ≤ y → y ≤ far → (rs.length : Int) ≤ m → But b H H' → Box H' b → DT K H' v (eng x y w look rs) → Q v H'
def t3 : Sh → Int
  | .l => 3
  | .s => 0
  | .r => 1
theorem t3_tn (w : Int) (s : Sh) : (w + t3 s) % 4 = tn w s := by
  cases s <;> simp only [t3, tn, Sh.t] <;> omega
def shOf (k : Int) : Sh := if k = 0 then .l else if k = 2 then .r else .s
theorem pick4 {r : Int} (h0 : 0 ≤ r) (h1 : r < 4) : ∃ c, atI ("lsrs" : Str).cps.toList r = some c ∧ (⟨#[c]⟩ : Str) = (shOf r).str := by
  have h : r = 0 ∨ r = 1 ∨ r = 2 ∨ r = 3 := by omega
  rcases h with rfl | rfl | rfl | rfl
  · exact ⟨108, by decide +kernel, by decide +kernel⟩
  · exact ⟨115, by decide +kernel, by decide +kernel⟩
  · exact ⟨114, by decide +kernel, by decide +kernel⟩
  · exact ⟨115, by decide +kernel, by decide +kernel⟩
structure EngInv (K : PySem.W.Frag) (b p1 p2 : Addr) (H H' : Hp) (x y w : Int) (i : Nat) (rs : List (Sh × Int)) (qs : List (Int × Int)) (here : Int × Int) (ahead : Int) (vh : V) (xs ys : List V) : Prop where
  dh : DT K H' vh (sq here)
  h1 : H' p1 = some (.lst xs)
  d1 : DTs K H' xs (rs.map rail)
  h2 : H' p2 = some (.lst ys)
  d2 : DTs K H' ys (qs.map sq)
  bx : Box H' b
  bt : But b H H'
  ln : rs.length ≤ i
  ne : 1 ≤ i → rs ≠ []
  z : i = 0 → qs = []
  ws : wst x y w rs = (qs ++ [here], ahead)
  nd : qs.Nodup
  col : ∀ r ∈ rs, 0 ≤ r.2 ∧ r.2 ≤ 9
  lq : qs.length = rs.length
theorem EngInv.but {K : PySem.W.Frag} {b p1 p2 : Addr} {H H' H2 : Hp} {x y w : Int} {i : Nat} {rs : List (Sh × Int)} {qs : List (Int × Int)} {here : Int × Int} {ahead : Int} {vh : V} {xs ys : List V}
    (I : EngInv K b p1 p2 H H' x y w i rs qs here ahead vh xs ys) (e : But b H' H2) (hb : Box H2 b) (n1 : p1 ≠ b) (n2 : p2 ≠ b) : EngInv K b p1 p2 H H2 x y w i rs qs here ahead vh xs ys := by
  obtain ⟨_, _, _, h0⟩ := I.bx
  have t := tk_but h0 e
  exact ⟨I.dh.up t, e _ _ n1 I.h1, I.d1.up t, e _ _ n2 I.h2, I.d2.up t, hb, I.bt.trans e, I.ln, I.ne, I.z, I.ws, I.nd, I.col, I.lq⟩
theorem EngInv.skip {K : PySem.W.Frag} {b p1 p2 : Addr} {H H' : Hp} {x y w : Int} {i : Nat} {rs : List (Sh × Int)} {qs : List (Int × Int)} {here : Int × Int} {ahead : Int} {vh : V} {xs ys : List V}
    (I : EngInv K b p1 p2 H H' x y w i rs qs here ahead vh xs ys) (hm : here ∈ qs) : EngInv K b p1 p2 H H' x y w (i + 1) rs qs here ahead vh xs ys := by
  refine ⟨I.dh, I.h1, I.d1, I.h2, I.d2, I.bx, I.bt, Nat.le_succ_of_le I.ln, fun _ => ?_, fun z => by omega, I.ws, I.nd, I.col, I.lq⟩
  by_cases h : i = 0
  · rw [I.z h] at hm
    cases hm
  · exact I.ne (by omega)
theorem EngInv.go {K : PySem.W.Frag} {b p1 p2 t : Addr} {H H' H2 : Hp} {x y w c : Int} {sh : Sh} {i : Nat} {rs : List (Sh × Int)} {qs : List (Int × Int)} {here : Int × Int} {ahead : Int} {vh v2 : V} {xs ys : List V}
    (I : EngInv K b p1 p2 H H' x y w i rs qs here ahead vh xs ys) (hm : ¬ here ∈ qs) (nt : H' t = none) (n1 : p1 ≠ b) (n2 : p2 ≠ b) (n21 : p2 ≠ p1) (f1 : H p1 = none) (f2 : H p2 = none) (c0 : 0 ≤ c) (c9 : c ≤ 9)
    (e : Same (upd (upd (upd H' t (.tup [.str sh.str, .int c])) p1 (.lst (xs ++ [.ref t]))) p2 (.lst (ys ++ [vh]))) H2) (d2 : DT K H2 v2 (sq (on here (tn ahead sh)))) :
    EngInv K b p1 p2 H H2 x y w (i + 1) (rs ++ [(sh, c)]) (qs ++ [here]) (on here (tn ahead sh)) (tn ahead sh) v2 (xs ++ [.ref t]) (ys ++ [vh]) := by
  have t1 : p1 ≠ t := ne_of_none I.h1 nt
  have t2 : p2 ≠ t := ne_of_none I.h2 nt
  have k1 : Tk H' (upd H' t (.tup [.str sh.str, .int c])) := tk_new nt
  have k2 : Tk (upd H' t (.tup [.str sh.str, .int c])) (upd (upd H' t (.tup [.str sh.str, .int c])) p1 (.lst (xs ++ [.ref t]))) := tk_set (by rw [upd_ne t1]; exact I.h1)
  have k3 : Tk (upd (upd H' t (.tup [.str sh.str, .int c])) p1 (.lst (xs ++ [.ref t]))) (upd (upd (upd H' t (.tup [.str sh.str, .int c])) p1 (.lst (xs ++ [.ref t]))) p2 (.lst (ys ++ [vh]))) := tk_set (by rw [upd_ne n21, upd_ne t2]; exact I.h2)
  have k := (k2.trans k3).trans (tk_same e)
  have kk := k1.trans k
  refine ⟨d2, e _ _ (by rw [upd_ne n21.symm, upd_same]), ?_, e _ _ upd_same, ?_, ?_, ?_, ?_, fun _ => by simp, fun z => by omega, ?_, nd_snoc I.nd hm, ?_, ?_⟩
  · rw [List.map_append]
    exact (I.d1.up kk).append (.cons ((DT.new (K := K) (.cons (.str _) (.cons (.int c) .nil)) nt).up k) .nil)
  · rw [List.map_append]
    exact (I.d2.up kk).append (.cons (I.dh.up kk) .nil)
  · obtain ⟨a1, a2, a3, h0⟩ := I.bx
    have bt : b ≠ t := ne_of_none h0 nt
    exact ⟨a1, a2, a3, e _ _ (by rw [upd_ne n2.symm, upd_ne n1.symm, upd_ne bt]; exact h0)⟩
  · intro a o n h
    have h' := I.bt a o n h
    refine e _ _ ?_
    rw [upd_ne (ne_of_none h f2), upd_ne (ne_of_none h f1), upd_ne (ne_of_none h' nt)]
    exact h'
  · rw [List.length_append]
    exact Nat.succ_le_succ I.ln
  · rw [wst_snoc, I.ws]
    dsimp only
    rw [getLastD_snoc]
  · intro r hr
    rcases List.mem_append.mp hr with h | h
    · exact I.col r h
    · cases List.mem_singleton.mp h
      exact ⟨c0, c9⟩
  · rw [List.length_append, List.length_append, I.lq]
    rfl
/-! ### tuples cut, put together, read -/
def cutD (xs : List PyData) (lo hi : Option Int) : List PyData := (xs.drop (HT.sIx xs.length 0 lo)).take (HT.sIx xs.length xs.length hi - HT.sIx xs.length 0 lo)
theorem DTs.cut {K : PySem.W.Frag} {H : Hp} {vs : List V} {ds : List PyData} (lo hi : Option Int) (h : DTs K H vs ds) : DTs K H (cutV vs lo hi) (cutD ds lo hi) := by
  unfold cutV cutD
  rw [h.length]
  exact (h.drop _).take _
theorem r_slA {K : PySem.W.Frag} {H : Hp} {v : V} {ds : List PyData} {lo hi : Option Int} {Q : VK} (h : DT K H v (.tuple ds)) (q : ∀ v' H', Same H H' → DT K H' v' (.tuple (cutD ds lo hi)) → Q v' H') : rSlA K v lo hi H Q := by
  obtain ⟨a, xs, rfl, hs, hx⟩ := h.tupOf
  refine ⟨a, xs, rfl, hs, fun e => ?_, fun _ p np => q _ _ (same_new np) (DT.new (hx.cut lo hi) np)⟩
  have e2 : cutD ds lo hi = ds := by
    unfold cutD
    rw [hx.length] at e
    rw [e.1, e.2, List.drop_zero, Nat.sub_zero, List.take_length]
  refine q _ _ (Same.refl H) ?_
  rw [e2]
  exact .tup hs hx
theorem r_catA {K : PySem.W.Frag} {H : Hp} {v u : V} {ds es : List PyData} {Q : VK} (h : DT K H v (.tuple ds)) (h2 : DT K H u (.tuple es)) (hl : ds.length + es.length ≤ 1000) (q : ∀ v' H', Same H H' → DT K H' v' (.tuple (ds ++ es)) → Q v' H') : rCatA K v u H Q := by
  obtain ⟨a, xs, rfl, hs, hx⟩ := h.tupOf
  obtain ⟨b, ys, rfl, hs2, hy⟩ := h2.tupOf
  refine ⟨a, b, xs, ys, rfl, rfl, hs, hs2, ?_, fun e => ?_, fun _ e => ?_, fun _ _ p np => q _ _ (same_new np) (DT.new (hx.append hy) np)⟩
  · rw [hx.length, hy.length]
    exact Nat.le_of_lt (small1000 hl)
  · subst e
    cases hx
    exact q _ _ (Same.refl H) (.tup hs2 hy)
  · subst e
    cases hy
    refine q _ _ (Same.refl H) ?_
    rw [List.append_nil]
    exact .tup hs hx
theorem atI_map {α β : Type} {xs : List α} {f : α → β} {i : Int} {v : α} (h : atI xs i = some v) : atI (xs.map f) i = some (f v) := by
  obtain ⟨j, h1, h2, h3, h4, h5⟩ := atI_get h
  unfold atI at h ⊢
  rw [List.length_map]
  cases e : ixN xs.length i with
  | none => rw [e] at h; cases h
  | some k =>
    rw [e] at h
    have h' : xs[k]? = some v := h
    show (xs.map f)[k]? = some (f v)
    rw [List.getElem?_map, h']
    rfl
theorem DTs.at {K : PySem.W.Frag} {H : Hp} {vs : List V} {ds : List PyData} {i : Int} {d : PyData} (h : DTs K H vs ds) (e : atI ds i = some d) : ∃ v, atI vs i = some v ∧ DT K H v d := by
  unfold atI at e ⊢
  rw [h.length]
  cases z : ixN ds.length i with
  | none => rw [z] at e; cases e
  | some k =>
    rw [z] at e
    have e' : ds[k]? = some d := e
    obtain ⟨v, h1, h2⟩ := h.get e'
    exact ⟨v, h1, h2⟩
theorem r_ixT {K : PySem.W.Frag} {H : Hp} {v : V} {ds : List PyData} {i : Int} {d : PyData} {Q : VK} (h : DT K H v (.tuple ds)) (e : atI ds i = some d) (q : ∀ v', DT K H v' d → Q v' H) : rIxT K v (.int i) H Q := by
  obtain ⟨a, xs, rfl, hs, hx⟩ := h.tupOf
  obtain ⟨v', h1, h2⟩ := hx.at e
  exact ⟨a, xs, i, v', rfl, rfl, hs, h1, q v' h2⟩
theorem DTs.last {K : PySem.W.Frag} {H : Hp} {vs : List V} {ds : List PyData} {d : PyData} (h : DTs K H vs (ds ++ [d])) : ∃ us u, vs = us ++ [u] ∧ DTs K H us ds ∧ DT K H u d := by
  induction ds generalizing vs with
  | nil =>
    obtain ⟨u, rfl, q⟩ := h.one
    exact ⟨[], u, rfl, .nil, q⟩
  | cons e ds ih =>
    cases h with
    | cons a b =>
      obtain ⟨us, u, rfl, q1, q2⟩ := ih b
      exact ⟨_ :: us, u, rfl, .cons a q1, q2⟩
theorem wst_last (x y w : Int) (rs : List (Sh × Int)) : ∃ L, (wst x y w rs).1 = L ++ [(wst x y w rs).1.getLastD (0, 0)] := by
  have ne : (wst x y w rs).1 ≠ [] := by
    rcases List.eq_nil_or_concat rs with rfl | ⟨r', r, rfl⟩
    · simp [wst]
    · simp [wst_snoc]
  rcases List.eq_nil_or_concat (wst x y w rs).1 with h | ⟨L, a, h⟩
  · exact absurd h ne
  · refine ⟨L, ?_⟩
    rw [List.concat_eq_append] at h
    rw [h, getLastD_snoc]
theorem wst_len (x y w : Int) (rs : List (Sh × Int)) : (wst x y w rs).1.length = rs.length + 1 := by
  rcases List.eq_nil_or_concat rs with rfl | ⟨r', r, rfl⟩
  · rfl
  · rw [List.concat_eq_append, wst_snoc, List.length_append, List.length_append, wst_len x y w r']
    rfl
termination_by rs.length
decreasing_by
  simp_all
theorem cut_last (xs : List V) (x : V) : cutV (xs ++ [x]) none (some (-1)) = xs := by
  have e1 : HT.sIx (xs ++ [x]).length 0 none = 0 := rfl
  have e2 : HT.sIx (xs ++ [x]).length (xs ++ [x]).length (some (-1)) = xs.length := by
    show (if (-1 : Int) < 0 then ((-1 : Int) + ((xs ++ [x]).length : Int)).toNat else min (-1 : Int).toNat (xs ++ [x]).length) = xs.length
    rw [if_pos (by decide), List.length_append]
    show ((-1 : Int) + ((xs.length + 1 : Nat) : Int)).toNat = xs.length
    omega
  unfold cutV
  rw [e1, e2, List.drop_zero, Nat.sub_zero, List.take_left]
theorem take_one {α : Type} {l : List α} {i : Nat} {a : α} (h : l[i]? = some a) : l.take (i + 1) = l.take i ++ [a] := by
  rw [List.take_add_one, h]
  rfl
theorem wst_take {x y w : Int} {rs : List (Sh × Int)} {i : Nat} {r : Sh × Int} (h : rs[i]? = some r) : wst x y w (rs.take (i + 1)) = ((wst x y w (rs.take i)).1 ++ [on ((wst x y w (rs.take i)).1.getLastD (0, 0)) (tn (wst x y w (rs.take i)).2 r.1)], tn (wst x y w (rs.take i)).2 r.1) := by
  rw [take_one h, wst_snoc]
theorem rails_at {K : PySem.W.Frag} {H : Hp} {vs : List V} {rs : List (Sh × Int)} {i : Nat} {v : V} (h : DTs K H vs (rs.map rail)) (e : vs[i]? = some v) : ∃ r, rs[i]? = some r ∧ ∃ a, v = .ref a ∧ SqT K H a [.str r.1.str, .int r.2] := by
  obtain ⟨d, h1, h2⟩ := h.getV e
  rw [List.getElem?_map] at h1
  cases z : rs[i]? with
  | none => rw [z] at h1; cases h1
  | some r =>
    rw [z] at h1
    cases Option.some.inj h1
    obtain ⟨a, xs, rfl, hs, hx⟩ := h2.tupOf
    obtain ⟨v1, v2, rfl, d1, d2⟩ := hx.two
    cases d1.strOf
    cases d2.intOf
    exact ⟨r, rfl, a, rfl, hs⟩
def spAbout : Sp := fun vs H Q _ => ∃ w : Int, vs = [.int w] ∧ Q (.int ((w + 2) % 4)) H
def spOnward (K : PySem.W.Frag) : Sp := fun vs H Q _ => ∃ (v : V) (p : Int × Int) (w n : Int), vs = [v, .int w, .int n] ∧ DT K H v (sq p) ∧ 0 ≤ w ∧ w ≤ 3 ∧ ∀ v' H', Same H H' → DT K H' v' (sq (p.1 + dx w * n, p.2 + dy w * n)) → Q v' H'
theorem dx_ok (w n : Int) : CMul (dx w) n := by
  left
  unfold dx
  split
  · decide
  · split <;> decide
theorem dy_ok (w n : Int) : CMul (dy w) n := by
  left
  unfold dy
  split
  · decide
  · split <;> decide
theorem on_one (p : Int × Int) (w : Int) : (p.1 + dx w * 1, p.2 + dy w * 1) = on p w := by
  unfold on
  rw [Int.mul_one, Int.mul_one]
theorem step_at {K : PySem.W.Frag} {H : Hp} {xs : List V} (h : DTs K H xs [sq (0, 1), sq (1, 0), sq (0, -1), sq (-1, 0)]) {w : Int} (w0 : 0 ≤ w) (w3 : w ≤ 3) : ∃ a, atI xs w = some (.ref a) ∧ SqT K H a [.int (dx w), .int (dy w)] := by
  have key : ∀ (v : V) (p : Int × Int), DT K H v (sq p) → ∃ a, v = .ref a ∧ SqT K H a [.int p.1, .int p.2] := fun v p hd => by
    obtain ⟨a, ys, rfl, hs, hy⟩ := hd.tupOf
    obtain ⟨v1, v2, rfl, d1, d2⟩ := hy.two
    cases d1.intOf
    cases d2.intOf
    exact ⟨a, rfl, hs⟩
  rcases way4 w0 w3 with rfl | rfl | rfl | rfl
  · obtain ⟨v, h1, h2⟩ := h.at (i := 0) (d := sq (0, 1)) rfl
    obtain ⟨a, rfl, h3⟩ := key v _ h2
    exact ⟨a, h1, h3⟩
  · obtain ⟨v, h1, h2⟩ := h.at (i := 1) (d := sq (1, 0)) rfl
    obtain ⟨a, rfl, h3⟩ := key v _ h2
    exact ⟨a, h1, h3⟩
  · obtain ⟨v, h1, h2⟩ := h.at (i := 2) (d := sq (0, -1)) rfl
    obtain ⟨a, rfl, h3⟩ := key v _ h2
    exact ⟨a, h1, h3⟩
  · obtain ⟨v, h1, h2⟩ := h.at (i := 3) (d := sq (-1, 0)) rfl
    obtain ⟨a, rfl, h3⟩ := key v _ h2
    exact ⟨a, h1, h3⟩
theorem sq_at {K : PySem.W.Frag} {H : Hp} {v : V} {p : Int × Int} (hd : DT K H v (sq p)) : ∃ a, v = .ref a ∧ SqT K H a [.int p.1, .int p.2] := by
  obtain ⟨a, ys, rfl, hs, hy⟩ := hd.tupOf
  obtain ⟨v1, v2, rfl, d1, d2⟩ := hy.two
  cases d1.intOf
  cases d2.intOf
  exact ⟨a, rfl, hs⟩
theorem eng_at {K : PySem.W.Frag} {H : Hp} {v : V} {x y w look : Int} {rs : List (Sh × Int)} (hd : DT K H v (eng x y w look rs)) : ∃ a r xs, v = .ref a ∧ SqT K H a [.int x, .int y, .int w, .int look, .ref r] ∧ SqT K H r xs ∧ DTs K H xs (rs.map rail) := by
  obtain ⟨a, ys, rfl, hs, hy⟩ := hd.tupOf
  obtain ⟨v1, v2, v3, v4, v5, rfl, d1, d2, d3, d4, d5⟩ := hy.five
  cases d1.intOf
  cases d2.intOf
  cases d3.intOf
  cases d4.intOf
  obtain ⟨r, xs, rfl, h1, h2⟩ := d5.tupOf
  exact ⟨a, r, xs, rfl, hs, h1, h2⟩
/-- a def of the text with keyword-only defaults, nothing leaves it -/
theorem FunD_ok0 {P : Program} {w : World} {K : PySem.W.Frag} {mg : Str → Option Value} {base : Heap} {x qual : Str} {params : Arguments} {body : List Stmt} {scope : Scope} {dvs : List V} {kws : List (Str × V)} {f : Addr} {fd : FuncData} {N ps : List Str} {k : Nat} {sp : Sp} (F : FunD K x qual params body scope dvs kws f fd) (S : FnScope N ps scope) (len : ∀ vs H Q E, sp vs H Q E → vs.length = ps.length)
    (hbody : ∀ (cdv : Value) (A : Around) (outer : List Env) (s : Shared) (H : Hp) (vs : List V) (Q : VK) (E : XK), Room k (A.deeper (envOfC qual scope s.heap.objs.size f cdv)) → sp vs H Q E →
      ∃ t, PSs (cxOf CX0 P w K mg base N qual scope f cdv A outer s H E).nox body t ∧ t { nx := fun _ H' => Q .non H', rt := Q } (start N vs) H) : FnOk P w K mg base CX0 (k + 1) f fd ps sp := by
  refine F.ok S len fun cdv A outer s H vs Q E hr hsp => ?_
  obtain ⟨t, h, q⟩ := hbody cdv A outer s H vs Q E hr hsp
  exact ⟨t, h.nox, q⟩
def spSAN (K : PySem.W.Frag) : Sp := fun vs H Q _ => ∃ (v : V) (x y w look : Int) (rs : List (Sh × Int)), vs = [v] ∧ DT K H v (eng x y w look rs) ∧ rs.length ≤ 900 ∧
  ∀ p xs H', Same H H' → H p = none → H' p = some (.lst xs) → DTs K H' xs ((wst x y w rs).1.map sq) → Q (.ref p) H'
def spSquares (K : PySem.W.Frag) : Sp := fun vs H Q _ => ∃ (v : V) (x y w look : Int) (rs : List (Sh × Int)), vs = [v] ∧ DT K H v (eng x y w look rs) ∧ rs.length ≤ 900 ∧
  ∀ v' H', Same H H' → DT K H' v' (.tuple ((wst x y w rs).1.dropLast.map sq)) → Q v' H'
def wantedOf (x y w look : Int) (rs : List (Sh × Int)) : Int × Int := if look = 1 then (wst x y w rs).1.getLastD (0, 0) else on (x, y) ((w + 2) % 4)
def spWanted (K : PySem.W.Frag) : Sp := fun vs H Q _ => ∃ (v : V) (x y w look : Int) (rs : List (Sh × Int)), vs = [v] ∧ DT K H v (eng x y w look rs) ∧ rs.length ≤ 900 ∧
  ∀ v' H', Same H H' → DT K H' v' (sq (wantedOf x y w look rs)) → Q v' H'
/-! ### a comprehension over two tuples -/
theorem lc_zipT {K : PySem.W.Frag} {a b : Addr} {xs ys : List V} {g : TG} {tt : TT} {te : TE} {vs : List Nat} {σ : L2.St} {H1 : Hp} {D : Addr} {Qd : Hp → Prop} (hl : xs.length = ys.length) (Pv : Nat → Hp → Prop) (h0 : Pv 0 (upd H1 D (.lst []))) (hq : ∀ i H, Pv i H → SqT K H a xs ∧ SqT K H b ys)
    (hs : ∀ (i : Nat) (x y : V) (T : Addr) (H : Hp), xs[i]? = some x → ys[i]? = some y → Pv i H → H T = none → g (.ref T) (wipe σ vs) (upd H T (.tup [x, y])) fun σ2 H2 => wipe σ2 vs = wipe σ vs ∧ tt σ2 H2 fun b H3 =>
      if b = true then te σ2 H3 fun y H4 => ∃ acc, H4 D = some (.lst acc) ∧ acc.length < sizeLine ∧ Pv (i + 1) (upd H4 D (.lst (acc ++ [y]))) else Pv (i + 1) H3) (hd : ∀ H, Pv xs.length H → Qd H) :
    ∃ W : Nat → Nat → Hp → Prop, (∃ m, W 0 m (upd H1 D (.lst []))) ∧ ∀ i m H, W i m H →
      ((RZ.ItzT K a b).stop i H ∧ Qd H) ∨ ((RZ.ItzT K a b).go i H ∧ ∃ Nx : Hp → Prop, (∀ H', Nx H' → ∃ m', m' < m ∧ W (i + 1) m' H') ∧ ∀ x H', (RZ.ItzT K a b).yld i H x H' → g x (wipe σ vs) H' fun σ2 H2 => wipe σ2 vs = wipe σ vs ∧ tt σ2 H2 fun b H3 =>
        if b = true then te σ2 H3 fun y H4 => ∃ acc, H4 D = some (.lst acc) ∧ acc.length < sizeLine ∧ Nx (upd H4 D (.lst (acc ++ [y]))) else Nx H3) := by
  refine ⟨fun i m H => m = xs.length - i ∧ i ≤ xs.length ∧ Pv i H, ⟨xs.length, rfl, Nat.zero_le _, h0⟩, ?_⟩
  rintro i m H ⟨rfl, hi, p⟩
  obtain ⟨q1, q2⟩ := hq i H p
  by_cases hlt : i < xs.length
  · have hlt2 : i < ys.length := hl ▸ hlt
    refine .inr ⟨⟨xs, ys, xs[i], ys[i], q1, q2, by simp [hlt], by simp [hlt2]⟩, Pv (i + 1), fun H' p' => ⟨xs.length - (i + 1), by omega, rfl, hlt, p'⟩, fun x H' y => ?_⟩
    obtain ⟨T, x1, y1, rfl, nT, rfl, f1, f2⟩ := y
    exact hs i x1 y1 T H (f1 _ q1) (f2 _ q2) p nT
  · have e : i = xs.length := by omega
    subst e
    exact .inl ⟨⟨xs, ys, q1, q2, .inl (Nat.le_refl _)⟩, hd H p⟩
/-! ### what a datum's type is -/
def tyN : PyData → String
  | .none => "NoneType"
  | .bool _ => "bool"
  | .int _ => "int"
  | .str _ => "str"
  | .list _ => "list"
  | .tuple _ => "tuple"
  | .dict _ => "dict"
theorem DT.ty {K : PySem.W.Frag} {H : Hp} {v : V} {d : PyData} (h : DT K H v d) : TyX K H v (.type (tyN d)) := by
  cases h with
  | non => exact .base .non
  | bl b => exact .base (.bl b)
  | int i => exact .base (.int i)
  | str x => exact .base (.str x)
  | tup hs ha =>
    rcases hs with (hs | ⟨o, hs⟩) | ⟨o, its, n, hk, hc, _⟩
    · exact .base (.tup hs)
    · exact .fTuple hs
    · exact .kTuple hk hc
def isT : PyData → Bool
  | .tuple _ => true
  | _ => false
def isB : PyData → Bool
  | .bool _ => true
  | _ => false
def isS : PyData → Bool
  | .str _ => true
  | _ => false
theorem kT {K : PySem.W.Frag} {H : Hp} {v : V} {d : PyData} (h : DT K H v d) : PySem.W.kitOne K (.type (tyN d)) (.type "tuple") = some (isT d) := by
  cases h with
  | non => exact kit_ty (a := "NoneType") (r := false) (by decide +kernel)
  | bl _ => exact kit_ty (a := "bool") (r := false) (by decide +kernel)
  | int _ => exact kit_ty (a := "int") (r := false) (by decide +kernel)
  | str _ => exact kit_ty (a := "str") (r := false) (by decide +kernel)
  | tup _ _ => exact kit_ty (a := "tuple") (r := true) (by decide +kernel)
theorem kL {K : PySem.W.Frag} {H : Hp} {v : V} {d : PyData} (h : DT K H v d) : PySem.W.kitOne K (.type (tyN d)) (.type "list") = some false := by
  cases h with
  | non => exact kit_ty (a := "NoneType") (r := false) (by decide +kernel)
  | bl _ => exact kit_ty (a := "bool") (r := false) (by decide +kernel)
  | int _ => exact kit_ty (a := "int") (r := false) (by decide +kernel)
  | str _ => exact kit_ty (a := "str") (r := false) (by decide +kernel)
  | tup _ _ => exact kit_ty (a := "tuple") (r := false) (by decide +kernel)
theorem kD {K : PySem.W.Frag} {H : Hp} {v : V} {d : PyData} (h : DT K H v d) : PySem.W.kitOne K (.type (tyN d)) (.type "dict") = some false := by
  cases h with
  | non => exact kit_ty (a := "NoneType") (r := false) (by decide +kernel)
  | bl _ => exact kit_ty (a := "bool") (r := false) (by decide +kernel)
  | int _ => exact kit_ty (a := "int") (r := false) (by decide +kernel)
  | str _ => exact kit_ty (a := "str") (r := false) (by decide +kernel)
  | tup _ _ => exact kit_ty (a := "tuple") (r := false) (by decide +kernel)
theorem kB {K : PySem.W.Frag} {H : Hp} {v : V} {d : PyData} (h : DT K H v d) : PySem.W.kitOne K (.type (tyN d)) (.type "bool") = some (isB d) := by
  cases h with
  | non => exact kit_ty (a := "NoneType") (r := false) (by decide +kernel)
  | bl _ => exact kit_ty (a := "bool") (r := true) (by decide +kernel)
  | int _ => exact kit_ty (a := "int") (r := false) (by decide +kernel)
  | str _ => exact kit_ty (a := "str") (r := false) (by decide +kernel)
  | tup _ _ => exact kit_ty (a := "tuple") (r := false) (by decide +kernel)
theorem kS {K : PySem.W.Frag} {H : Hp} {v : V} {d : PyData} (h : DT K H v d) : PySem.W.kitOne K (.type (tyN d)) (.type "str") = some (isS d) := by
  cases h with
  | non => exact kit_ty (a := "NoneType") (r := false) (by decide +kernel)
  | bl _ => exact kit_ty (a := "bool") (r := false) (by decide +kernel)
  | int _ => exact kit_ty (a := "int") (r := false) (by decide +kernel)
  | str _ => exact kit_ty (a := "str") (r := true) (by decide +kernel)
  | tup _ _ => exact kit_ty (a := "tuple") (r := false) (by decide +kernel)
theorem kTL {K : PySem.W.Frag} {H : Hp} {v : V} {d : PyData} (h : DT K H v d) : PySem.W.kitAny K (.type (tyN d)) [.type "tuple", .type "list"] = some (isT d) :=
  kitAny_cons (kT h) (fun e => by rw [e]; exact kitAny_cons (kL h) (fun _ => kitAny_nil) (fun z => by cases z)) (fun e => e)
theorem kTLD {K : PySem.W.Frag} {H : Hp} {v : V} {d : PyData} (h : DT K H v d) : PySem.W.kitAny K (.type (tyN d)) [.type "tuple", .type "list", .type "dict"] = some (isT d) :=
  kitAny_cons (kT h) (fun e => by rw [e]; exact kitAny_cons (kL h) (fun _ => kitAny_cons (kD h) (fun _ => kitAny_nil) (fun z => by cases z)) (fun z => by cases z)) (fun e => e)
theorem iteEq {α : Type} [DecidableEq α] {x y : α} {A B : Prop} (h : x = y) (k : A) : if decide (x = y) = true then A else B := by
  rw [decide_eq_true h]
  exact iteT k
mutual
def okD : PyData → Bool
  | .none => true
  | .bool _ => true
  | .int _ => true
  | .str x => PyData.strOk x
  | .tuple ds => decide (ds.length ≤ 1000) && okAll ds
  | .list _ => false
  | .dict _ => false
def okAll : List PyData → Bool
  | [] => true
  | d :: ds => okD d && okAll ds
end
mutual
theorem lay_ok : ∀ d : PyData, okD d = true → d.canLay0 = true
  | .none, _ => rfl
  | .bool _, _ => rfl
  | .int _, _ => rfl
  | .str x, h => by
    rw [okD] at h
    rw [PyData.canLay0]
    exact h
  | .tuple ds, h => by
    rw [okD, Bool.and_eq_true] at h
    rw [PyData.canLay0]
    exact lay_oks ds h.2
  | .list _, h => by rw [okD] at h; cases h
  | .dict _, h => by rw [okD] at h; cases h
theorem lay_oks : ∀ ds : List PyData, okAll ds = true → PyData.canLayAll0 ds = true
  | [], _ => rfl
  | d :: ds, h => by
    rw [okAll, Bool.and_eq_true] at h
    rw [PyData.canLayAll0, lay_ok d h.1, lay_oks ds h.2]
    rfl
end
theorem okAll_get : ∀ {ds : List PyData} {i : Nat} {d : PyData}, okAll ds = true → ds[i]? = some d → okD d = true
  | [], _, _, _, e => by simp at e
  | x :: ds, 0, d, h, e => by
    rw [okAll, Bool.and_eq_true] at h
    simp at e
    rw [← e]
    exact h.1
  | x :: ds, i + 1, d, h, e => by
    rw [okAll, Bool.and_eq_true] at h
    exact okAll_get (i := i) h.2 (by simpa using e)
theorem dep_get : ∀ {ds : List PyData} {i : Nat} {d : PyData}, ds[i]? = some d → d.depth ≤ PyData.depthAll ds
  | [], _, _, e => by simp at e
  | x :: ds, 0, d, e => by
    simp at e
    rw [PyData.depthAll, ← e]
    exact Nat.le_max_left _ _
  | x :: ds, i + 1, d, e => by
    have h := dep_get (ds := ds) (i := i) (d := d) (by simpa using e)
    rw [PyData.depthAll]
    exact Nat.le_trans h (Nat.le_max_right _ _)
def spAlike (K : PySem.W.Frag) (n : Nat) : Sp := fun vs H Q _ => ∃ (v u : V) (d : PyData), vs = [v, u] ∧ DT K H v d ∧ DT K H u d ∧ okD d = true ∧ d.depth ≤ n ∧ (∀ H', Same H H' → Q (.bl true) H')
theorem tk_setD {H : Hp} {b : Addr} {kvs : List (Key × V)} {o : HO} (hb : H b = some (.dK kvs)) : Tk H (upd H b o) := fun a ys h => by
  have n : a ≠ b := fun z => by
    subst z
    rcases h with h | ⟨u, h⟩
    · rw [hb] at h
      cases h
    · rw [hb] at h
      cases h
  rcases h with h | ⟨u, h⟩
  · exact .inl (by rw [upd_ne n]; exact h)
  · exact .inr ⟨u, by rw [upd_ne n]; exact h⟩
def spDue (K : PySem.W.Frag) : Sp := fun vs H Q _ => ∃ (v : V) (x y w look : Int) (rs : List (Sh × Int)), vs = [v] ∧ DT K H v (eng x y w look rs) ∧ 0 ≤ w ∧ w ≤ 3 ∧ rs.length ≤ 900 ∧
  ∀ v' H', Same H H' → DT K H' v' (.tuple [.tuple ((wst x y w rs).1.dropLast.map sq), sq (wantedOf x y w look rs)]) → Q v' H'
theorem okAll_map {α : Type} (f : α → PyData) (h : ∀ a, okD (f a) = true) : ∀ l : List α, okAll (l.map f) = true
  | [] => rfl
  | a :: l => by
    rw [List.map_cons, okAll, h a, okAll_map f h l]
    rfl
theorem ok_sq (p : Int × Int) : okD (sq p) = true := by
  simp [sq, okD, okAll]
theorem ok_sqs (l : List (Int × Int)) (h : l.length ≤ 1000) : okD (.tuple (l.map sq)) = true := by
  rw [okD, okAll_map sq ok_sq, List.length_map, decide_eq_true h]
  rfl
theorem depT_sqs (l : List (Int × Int)) : (PyData.tuple (l.map sq)).depth ≤ 4 := by
  have h := dep_sqs l
  rw [PyData.depth]
  omega
theorem dep_sq (p : Int × Int) : (sq p).depth = 1 := by
  simp [sq, PyData.depth, PyData.depthAll]
theorem lawRange {n : Nat} (k : Int) (h2 : 2 ≤ k) (h9 : k ≤ 60) : 0 ≤ (if (if ((n : Int)) < k then ((n : Int)) else k) > 2 then (if ((n : Int)) < k then ((n : Int)) else k) else 2) ∧ (if (if ((n : Int)) < k then ((n : Int)) else k) > 2 then (if ((n : Int)) < k then ((n : Int)) else k) else 2) ≤ 60 := by
  split <;> split <;> omega
def spLaw (K : PySem.W.Frag) : Sp := fun vs H Q _ => ∃ (a : Addr) (ns : List Int), vs = [.ref a] ∧ SqL K H a (ns.map V.int) ∧ ns.length ≤ 63 ∧ ∀ H', Q (.bl true) H'
theorem SqL_but {K : PySem.W.Frag} {H H1 H2 : Hp} {a b : Addr} {xs : List V} (h : SqL K H a xs) (nb : H b = none) (e1 : Same H H1) (e2 : But b H1 H2) : SqL K H2 a xs := by
  rcases h with (h | ⟨o, h⟩) | h
  · exact .inl (.inl (e2 _ _ (ne_of_none h nb) (e1 _ _ h)))
  · exact .inl (.inr ⟨o, e2 _ _ (ne_of_none h nb) (e1 _ _ h)⟩)
  · exact .inr h
theorem Box.same {H H' : Hp} {b : Addr} (h : Box H b) (e : Same H H') : Box H' b := by
  obtain ⟨i, s, c, h⟩ := h
  exact ⟨i, s, c, e _ _ h⟩
theorem eng_cut (x y w look : Int) (rs : List (Sh × Int)) : cutD [.int x, .int y, .int w, .int look, .tuple (rs.map rail)] none (some 3) = [.int x, .int y, .int w] := rfl
/-! ### readings, step by step -/
section
variable {K : PySem.W.Frag} {σ : L2.St} {H : Hp} {Q : VK} {ta tb : TE} {r : R2} {v : V}
theorem r_c (k : Q v H) : tC v σ H Q := k
theorem r_v {i : Nat} (h : σ[i]? = some (some v)) (k : Q v H) : tVar i σ H Q := ⟨v, h, k⟩
theorem r_op (k : ta σ H fun x H1 => tb σ H1 fun y H2 => r x y H2 Q) : tOp r ta tb σ H Q := k
theorem r_tup {t : TA} (k : t σ H fun xs H1 => xs.length ≤ sizeLine ∧ ∀ p, H1 p = none → Q (.ref p) (upd H1 p (.tup xs))) : tTup t σ H Q := k
theorem r_lst {t : TA} (k : t σ H fun xs H1 => xs.length ≤ sizeLine ∧ ∀ p, H1 p = none → Q (.ref p) (upd H1 p (.lst xs))) : tLst t σ H Q := k
theorem r_cons {tr : TA} {Q : List V → Hp → Prop} (k : ta σ H fun x H1 => tr σ H1 fun xs H2 => Q (x :: xs) H2) : tCons ta tr σ H Q := k
theorem r_nil {Q : List V → Hp → Prop} (k : Q [] H) : tNil σ H Q := k
theorem r_call {sp : Sp} {dvs : List V} {E : XK} {t : TA} (k : t σ H fun vs H1 => sp (vs ++ dvs) H1 Q E) : tCall sp dvs E t σ H Q := k
theorem r_np {Q : Option Int → Hp → Prop} (k : Q none H) : tNoPart σ H Q := k
theorem r_nm {i : Nat} {Q : L2.St → Hp → Prop} (k : Q (σ.set i (some v)) H) : gName i v σ H Q := k
theorem r_asg {g : TG} {D : Ends} (k : ta σ H fun x H1 => g x σ H1 D.nx) : tAsg ta g D σ H := k
theorem r_seq {t u : TS} {D : Ends} (k : t { D with nx := u D } σ H) : tSeq t u D σ H := k
theorem r_next {D : Ends} (k : D.nx σ H) : tNext D σ H := k
theorem r_ret {D : Ends} (k : ta σ H D.rt) : tRet ta D σ H := k
theorem r_I0 {g : Int → Int → V} {i j : Int} (k : Q (g i j) H) : rI0 g (.int i) (.int j) H Q := ⟨i, j, rfl, rfl, k⟩
theorem r_I {C : Int → Int → Prop} {g : Int → Int → V} {i j : Int} (c : C i j) (k : Q (g i j) H) : rI C g (.int i) (.int j) H Q := ⟨i, j, rfl, rfl, c, k⟩
theorem r_ixTV {j : Nat} {ds : List PyData} {i : Int} {d : PyData} (hv : σ[j]? = some (some v)) (h : DT K H v (.tuple ds)) (e : atI ds i = some d) (q : ∀ v', DT K H v' d → Q v' H) : tOp (rIxT K) (tVar j) (tC (.int i)) σ H Q := ⟨v, hv, r_ixT h e q⟩
end
/-! ### what an expression comes to, whatever was laid meanwhile -/
def EvD (K : PySem.W.Frag) (te : TE) (σ : L2.St) (H : Hp) (d : PyData) : Prop := ∀ H1, Same H H1 → ∀ Q : VK, (∀ v H2, Same H1 H2 → DT K H2 v d → Q v H2) → te σ H1 Q
def EvI (te : TE) (σ : L2.St) (i : Int) : Prop := ∀ (H : Hp) (Q : VK), Q (.int i) H → te σ H Q
section
variable {K : PySem.W.Frag} {σ : L2.St} {H : Hp} {ta tb : TE} {a b : Int}
theorem evi_v {i : Nat} (h : σ[i]? = some (some (.int a))) : EvI (tVar i) σ a := fun H Q q => ⟨_, h, q⟩
theorem evi_c : EvI (tC (.int a)) σ a := fun H Q q => q
theorem evi_0 {g : Int → Int → Int} (h1 : EvI ta σ a) (h2 : EvI tb σ b) : EvI (tOp (rI0 fun i j => .int (g i j)) ta tb) σ (g a b) := fun H Q q => h1 H _ (h2 H _ ⟨a, b, rfl, rfl, q⟩)
theorem evd_i (h : EvI ta σ a) : EvD K ta σ H (.int a) := fun H1 _ Q q => h H1 Q (q _ _ (Same.refl _) (.int a))
theorem evd_2 (h1 : EvI ta σ a) (h2 : EvI tb σ b) : EvD K (tTup (tCons ta (tCons tb tNil))) σ H (.tuple [.int a, .int b]) := fun H1 _ Q q =>
  h1 H1 _ (h2 H1 _ ⟨by show 2 ≤ sizeLine; decide, fun p np => q _ _ (same_new np) (DT.new (.cons (.int a) (.cons (.int b) .nil)) np)⟩)
def pick4D (w : Int) (d0 d1 d2 d3 : PyData) : PyData := if w = 0 then d0 else if w = 1 then d1 else if w = 2 then d2 else d3
theorem r_disp4 {t0 t1 t2 t3 : TE} {d0 d1 d2 d3 : PyData} {j : Nat} {w : Int} {Q : VK} (e0 : EvD K t0 σ H d0) (e1 : EvD K t1 σ H d1) (e2 : EvD K t2 σ H d2) (e3 : EvD K t3 σ H d3) (hk : σ[j]? = some (some (.int w))) (w0 : 0 ≤ w) (w3 : w ≤ 3)
    (q : ∀ v H', Same H H' → DT K H' v (pick4D w d0 d1 d2 d3) → Q v H') : tDGet (tDisp [(tC (.int 0), t0), (tC (.int 1), t1), (tC (.int 2), t2), (tC (.int 3), t3)]) (tVar j) σ H Q := by
  intro p np
  have s0 : Same H (upd H p (.dK [])) := same_new np
  refine e0 _ s0 _ fun v0 H1 s1 x0 => ?_
  refine e1 _ (s0.trans s1) _ fun v1 H2 s2 x1 => ?_
  refine e2 _ ((s0.trans s1).trans s2) _ fun v2 H3 s3 x2 => ?_
  refine e3 _ (((s0.trans s1).trans s2).trans s3) _ fun v3 H4 s4 x3 => ?_
  have s14 := ((s1.trans s2).trans s3).trans s4
  have hp : H4 p = some (.dK []) := s14 _ _ upd_same
  refine ⟨hp, [(Sum.inl 0, v0), (Sum.inl 1, v1), (Sum.inl 2, v2), (Sum.inl 3, v3)], rfl, by show 4 ≤ 15; decide, ?_⟩
  have tk := tk_setD (o := HO.dK (mergeK [] [(Sum.inl 0, v0), (Sum.inl 1, v1), (Sum.inl 2, v2), (Sum.inl 3, v3)])) hp
  have sH : Same H (upd H4 p (HO.dK (mergeK [] [(Sum.inl 0, v0), (Sum.inl 1, v1), (Sum.inl 2, v2), (Sum.inl 3, v3)]))) := fun c o h => by
    rw [upd_ne (ne_of_none h np)]
    exact s14 _ _ (s0 _ _ h)
  rcases way4 w0 w3 with rfl | rfl | rfl | rfl
  · exact ⟨.int 0, hk, p, v0, rfl, .inl ⟨_, Sum.inl 0, .inl upd_same, rfl, rfl⟩, q _ _ sH (x0.up (((tk_same s2).trans ((tk_same s3).trans (tk_same s4))).trans tk))⟩
  · exact ⟨.int 1, hk, p, v1, rfl, .inl ⟨_, Sum.inl 1, .inl upd_same, rfl, rfl⟩, q _ _ sH (x1.up (((tk_same s3).trans (tk_same s4)).trans tk))⟩
  · exact ⟨.int 2, hk, p, v2, rfl, .inl ⟨_, Sum.inl 2, .inl upd_same, rfl, rfl⟩, q _ _ sH (x2.up ((tk_same s4).trans tk))⟩
  · exact ⟨.int 3, hk, p, v3, rfl, .inl ⟨_, Sum.inl 3, .inl upd_same, rfl, rfl⟩, q _ _ sH (x3.up tk)⟩
end
/-! ### calls by names alone -/
section
variable {X : Cx} {k : Nat} {f : Addr} {fd : FuncData} {ps ks : List Str} {sp : Sp} {E : XK} {x : Str} {p pos : Pos} {kws : List Keyword} {tk : TA} {g : List Value → List Value → List Value} {gV : List V → List V → List V}
theorem pe_kw0 (F : FnOk X.prog X.w X.K X.mg X.base CX0 k f fd ps sp) (room : Room k X.A) (gl : Gl X x) (at_ : X.mg x = some (.ref f)) (kp : PySem.W.keepIn X.K (.ref f) = true) (kb : KBn X.K fd ps 0 ks g gV) (out : Passes CX0 X E) (kw : PK X kws tk)
    (all_ : (backToKw pos (keywordEach kws X.env)).all (·.1.isSome) = true := by rfl) (names : (backToKw pos (keywordEach kws X.env)).filterMap (·.1) = ks := by rfl) (nodb : (x == ("__debug__" : Str)) = false := by decide)
    (plain : ((backTo pos (starEach [] X.env)).any (·.1) || (backToKw pos (keywordEach kws X.env)).any (·.1.isNone)) = false := by rfl) : PE X (.Call (.Name x p) [] kws pos) (tCallN 0 ks.length sp gV E tNil tk) :=
  ⟨fun pins s σ H Q I h => wpAny_Call_Name_kw (ld_glob I gl at_ (PySem.W.callWith_KW0 (h₀ := X.base) I.ok.mod.kin kp all_ (thn (kw.run pos pins s σ H _ I h) fun ws s2 ⟨zs, H2, I2, rz, l1, l2, q2⟩ => ⟨I2.kIn, by
    rw [names]
    exact run_fnN (us := []) (vs := []) F room kb out I2 .nil rz rfl l2 q2⟩) plain) nodb)⟩
end
def swap2 {α : Type} : List α → List α
  | [a, b] => [b, a]
  | l => l
theorem vals_swap2 {zs : List V} {ws : List Value} (r : Vals zs ws) : Vals (swap2 zs) (swap2 ws) := by
  cases r with
  | nil => exact .nil
  | cons a t => cases t with
    | nil => exact .cons a .nil
    | cons b t => cases t with
      | nil => exact .cons b (.cons a .nil)
      | cons c t => exact .cons a (.cons b (.cons c t))
theorem script_keep {K : PySem.W.Frag} {H0 : Hp} {a b : Addr} {xs : List V} (h : SqL K H0 a xs) (nb : H0 b = none) : ∀ H1 H2 : Hp, But b H1 H2 → SqL K H1 a xs → SqL K H2 a xs := fun H1 H2 e h1 => by
  rcases h with (h | ⟨o, h⟩) | h
  · rcases h1 with (h1 | ⟨o1, h1⟩) | h1
    · exact .inl (.inl (e _ _ (ne_of_none h nb) h1))
    · exact .inl (.inr ⟨o1, e _ _ (ne_of_none h nb) h1⟩)
    · exact .inr h1
  · rcases h1 with (h1 | ⟨o1, h1⟩) | h1
    · exact .inl (.inl (e _ _ (ne_of_none h nb) h1))
    · exact .inl (.inr ⟨o1, e _ _ (ne_of_none h nb) h1⟩)
    · exact .inr h1
  · exact .inr h
/-- a loop over a written text's signs -/
theorem for_str {x : Str} {g : TG} {tb : TS} {D : Ends} {σ : L2.St} {H : Hp} (Pv : Nat → L2.St → Hp → Prop) (h0 : Pv 0 σ H)
    (hs : ∀ i c σ H, x.cps[i]? = some c → Pv i σ H → g (.str ⟨#[c]⟩) σ H fun σ2 H2 => tb { D with nx := Pv (i + 1), ct := Pv (i + 1), bk := D.nx } σ2 H2) (hd : ∀ σ H, Pv x.cps.size σ H → D.nx σ H) :
    ∃ W : Nat → Nat → L2.St → Hp → Prop, (∃ m, W 0 m σ H) ∧ ∀ i m σ H, W i m σ H →
      ((Its x).stop i H ∧ D.nx σ H) ∨ ((Its x).go i H ∧ ∃ N : L2.St → Hp → Prop, (∀ σ' H', N σ' H' → ∃ m', m' < m ∧ W (i + 1) m' σ' H') ∧ ∀ v H', (Its x).yld i H v H' → g v σ H' fun σ2 H2 => tb { D with nx := N, ct := N, bk := D.nx } σ2 H2) := by
  refine ⟨fun i m σ H => m = x.cps.size - i ∧ i ≤ x.cps.size ∧ Pv i σ H, ⟨x.cps.size, by simp, Nat.zero_le _, h0⟩, ?_⟩
  rintro i m σ H ⟨rfl, hi, p⟩
  by_cases hlt : i < x.cps.size
  · refine .inr ⟨hlt, Pv (i + 1), fun σ' H' p' => ⟨x.cps.size - (i + 1), by omega, rfl, hlt, p'⟩, fun v H' y => ?_⟩
    obtain ⟨e1, c, hc, e2⟩ := y
    subst e1 e2
    exact hs i c σ H' hc p
  · have e : i = x.cps.size := by omega
    subst e
    exact .inl ⟨Nat.le_refl _, hd σ H p⟩
/-! ### gone on -/
def fwdE (x y w look : Int) (r : Sh × Int) (rest : List (Sh × Int)) : PyData := eng (on (x, y) (tn w r.1)).1 (on (x, y) (tn w r.1)).2 (tn w r.1) look (rest ++ [r])
def bwdE (x y w look : Int) (r : Sh × Int) (init : List (Sh × Int)) : PyData := eng (on (x, y) ((w + 2) % 4)).1 (on (x, y) ((w + 2) % 4)).2 (tb w r.1) look (r :: init)
def spFwd (K : PySem.W.Frag) : Sp := fun vs H Q _ => ∃ (v : V) (x y w look : Int) (r : Sh × Int) (rest : List (Sh × Int)), vs = [v] ∧ DT K H v (eng x y w look (r :: rest)) ∧ rest.length ≤ 900 ∧ ∀ v' H', Same H H' → DT K H' v' (fwdE x y w look r rest) → Q v' H'
def spBwd (K : PySem.W.Frag) : Sp := fun vs H Q _ => ∃ (v : V) (x y w look : Int) (r : Sh × Int) (init : List (Sh × Int)), vs = [v] ∧ DT K H v (eng x y w look (init ++ [r])) ∧ init.length ≤ 900 ∧ ∀ v' H', Same H H' → DT K H' v' (bwdE x y w look r init) → Q v' H'
def spGone (K : PySem.W.Frag) : Sp := fun vs H Q _ => ∃ (v : V) (x y w look : Int) (rs : List (Sh × Int)), vs = [v] ∧ DT K H v (eng x y w look rs) ∧ rs ≠ [] ∧ rs.length ≤ 900 ∧
  ∀ v' H', Same H H' → (∀ r rest, rs = r :: rest → look = 1 → DT K H' v' (fwdE x y w look r rest)) → (∀ init r, rs = init ++ [r] → look ≠ 1 → DT K H' v' (bwdE x y w look r init)) → Q v' H'
def spHand (K : PySem.W.Frag) : Sp := fun vs H Q _ => ∃ (v : V) (x y w look : Int) (rs : List (Sh × Int)), vs = [v] ∧ DT K H v (eng x y w look rs) ∧ ∀ v' H', Same H H' → DT K H' v' (eng x y w (-look) rs) → Q v' H'
def spBack : Sp := fun vs H Q _ => ∃ (w : Int) (s : Sh), vs = [.int w, .str s.str] ∧ ∀ H', Same H H' → Q (.int (tb w s)) H'
theorem cut_1n (d : PyData) (ds : List PyData) : cutD (d :: ds) (some 1) none = ds := by
  have e1 : HT.sIx (d :: ds).length 0 (some 1) = 1 := by
    rw [show (some (1 : Int)) = some ((1 : Nat) : Int) from rfl, HT.sIx_nat, List.length_cons]
    omega
  unfold cutD
  rw [e1, HT.sIx_none, List.length_cons]
  show List.take (ds.length + 1 - 1) ds = ds
  rw [Nat.add_sub_cancel, List.take_length]
theorem cut_n1 (d : PyData) (ds : List PyData) : cutD (d :: ds) none (some 1) = [d] := by
  have e1 : HT.sIx (d :: ds).length (d :: ds).length (some 1) = 1 := by
    rw [show (some (1 : Int)) = some ((1 : Nat) : Int) from rfl, HT.sIx_nat, List.length_cons]
    omega
  unfold cutD
  rw [e1, HT.sIx_none]
  rfl
theorem six_m1 (n k : Nat) : HT.sIx (n + 1) k (some (-1)) = n := by
  show (if (-1 : Int) < 0 then ((-1 : Int) + ((n + 1 : Nat) : Int)).toNat else min (-1 : Int).toNat (n + 1)) = n
  rw [if_pos (by decide)]
  omega
theorem cut_l1 (d : PyData) (ds : List PyData) : cutD (ds ++ [d]) (some (-1)) none = [d] := by
  unfold cutD
  have e : (ds ++ [d]).length = ds.length + 1 := by
    rw [List.length_append]
    rfl
  rw [e, six_m1, HT.sIx_none, List.drop_left, Nat.add_sub_cancel_left]
  rfl
theorem cut_i1 (d : PyData) (ds : List PyData) : cutD (ds ++ [d]) none (some (-1)) = ds := by
  unfold cutD
  have e : (ds ++ [d]).length = ds.length + 1 := by
    rw [List.length_append]
    rfl
  rw [e, six_m1, HT.sIx_none, List.drop_zero, Nat.sub_zero, List.take_left]
theorem rail_at {K : PySem.W.Frag} {H : Hp} {v : V} {r : Sh × Int} (h : DT K H v (rail r)) : ∃ a, v = .ref a ∧ SqT K H a [.str r.1.str, .int r.2] := by
  obtain ⟨a, xs, rfl, hs, hx⟩ := h.tupOf
  obtain ⟨v1, v2, rfl, d1, d2⟩ := hx.two
  cases d1.strOf
  cases d2.intOf
  exact ⟨a, rfl, hs⟩
theorem iteNe {d e : PyData} {A B : Prop} (h : PyData.eqv d e = true) (k : B) : if (!PyData.eqv d e) = true then A else B := by
  rw [h]
  exact iteF k
theorem small12 {n : Nat} (h : n ≤ 12) : n < sizeLine := Nat.lt_of_le_of_lt h (by decide)
end OR

namespace K01
open PySem PySem.Spec PyProof.Rows L2 OR
/-! ### making an exception of an own class, by places and by names -/
section
open Builtin Builtin.ObjectAttr PySem.HandSPX
variable {prog : Program} {w : World} {A : Around} {E : Value → Shared → Prop} {R : Result → Shared → Prop} {h : Heap} {g : Array GenState} {d : PySem.Drawn} {t : Nat} {os : OsState}
variable {nm q : Str} {C N : Addr} {bs bm bmB : List Value} {hdct : Bool} {sn : List Str} {sub : List Value} {ab : Bool} {col : Option Bool} {dd : Option Addr} {k0 k1 k2 k3 k5 : Option Value} {B newId initId : String}
theorem new_check {M : Model} (F : ExcBaseFacts B newId initId bmB) (hT : ∀ Y : String, bm.contains (.type Y) = bmB.contains (.type Y)) {us : List Value} {kw : List (Str × Value)} {Q : Unit → Shared → Prop}
    (at_ : h.get? C = some (excClassObj nm q C N bs bm hdct sn sub ab col dd k0 k1 k2 k3 k5 newId)) (k : Q () ⟨h, g, d, t, os⟩) : wpAny M A (checkBuiltinCall newId ⟨.ref C :: us, kw⟩) Q E ⟨h, g, d, t, os⟩ := by
  have inB : (Value.ref C :: bm).contains (.type B) = true := by rw [List.contains_cons, hT, F.hasB, Bool.or_true]
  have star := F.noStar
  simp only [checkBuiltinCall, F.newKind, F.newSplit, F.newRow]
  repeat (first | refine wpAny_loadPart_at at_ ?_ | (refine wpAny_isSubtype_exc at_ ?_; rw [inB]) | refine wpAny_staticBase_exc at_ ?_ | refine wpAny_madeBy_exc at_ ?_ | simp only [bne_self_eq_false, Bool.false_eq_true, if_false] | wp_step)
  exact k
theorem new_made (F : ExcBaseFacts B newId initId bmB) (hT : ∀ Y : String, bm.contains (.type Y) = bmB.contains (.type Y)) {us : List Value} {kw : List (Str × Value)} (at_ : h.get? C = some (excClassObj nm q C N bs bm hdct sn sub ab col dd k0 k1 k2 k3 k5 newId))
    (k : R (.ok (.ret (.ref (h.objs.size + 1)))) ⟨(h.push { cls := .type "tuple", data := .seq us.toArray }).push { cls := .ref C, data := .fields #[.ref h.objs.size, .none, .none, .none, .bool false, .none] }, g, d, t, os⟩) (few : us.length ≤ sizeLine) :
    codeAny (model prog w) A (.builtin newId ⟨.ref C :: us, kw⟩) R ⟨h, g, d, t, os⟩ := by
  have ends := F.ends
  have inB : (Value.ref C :: bm).contains (.type B) = true := by rw [List.contains_cons, hT, F.hasB, Bool.or_true]
  have noA : (Value.ref C :: bm).contains (.type "AttributeError") = false := by rw [List.contains_cons, hT, F.noAttr]; rfl
  have noN : (Value.ref C :: bm).contains (.type "NameError") = false := by rw [List.contains_cons, hT, F.noName]; rfl
  refine codeAny_builtinAt F.entry ?_
  unfold Builtin.«BaseException.__new__»
  refine PySem.wpAt_bind ?_
  show PySem.wpAt _ _ _ (stack >>= _) _ _ _
  refine PySem.wpAt_bind (PySem.wpAt_stack fun p below => PySem.wpAt_of_wpAny ?_)
  wp_walk
  refine PySem.wpAt_of_wpAny ?_
  rw [F.owner]
  repeat (first | with_reducible refine wpAny_madeHere_exc F.canon at_ ?_ | with_reducible refine wpAny_loadPart_at at_ ?_ | (with_reducible refine wpAny_isSubtype_exc at_ ?_; first | rw [inB] | rw [noA] | rw [noN]) | wp_step)
  show R _ _
  rw [Heap.size_push]
  exact k
theorem type_made (F : ExcBaseFacts B newId initId bmB) (hT : ∀ Y : String, bm.contains (.type Y) = bmB.contains (.type Y)) {us : List Value} {kw : List (Str × Value)} {fI : Addr} {Q : Fin → Shared → Prop} (at_ : h.get? C = some (excClassObj nm q C N bs bm hdct sn sub ab col dd k0 k1 k2 k3 k5 newId))
    (look : W.Looks (model prog w) h (typeLookup (.ref C) "__init__") (some (.ref fI))) (bound : ∀ self, W.Looks (model prog w) h (bindSpecial (.ref fI) self) (.ref fI, [self])) (few : us.length ≤ sizeLine)
    (k : codeAny (model prog w) A (.call (.ref fI) ⟨.ref (h.objs.size + 1) :: us, kw⟩) (fun r s' => match r with | .ok (.ret v) => v = .none ∧ Q (.done (.ret (.ref (h.objs.size + 1)))) s' | .ok _ => False | .error e => E e s') ⟨(h.push (W.kdv_tup us)).push (excO C h.objs.size), g, d, t, os⟩) :
    wpAny (model prog w) A (Builtin.«type.__call__» ⟨.ref C :: us, kw⟩) Q E ⟨h, g, d, t, os⟩ := by
  repeat (first | with_reducible refine wpAny_loadPart_at at_ ?_ | with_reducible refine wpAny_madeBy_exc at_ ?_ | wp_step)
  refine codeAny_call_builtin_code (Code.quiet_builtin _ F.quiet) (new_check F hT at_ ?_)
  refine new_made F hT at_ ?_ few
  show wpAny _ _ _ _ _ _
  have kept : ∀ b o, h.get? b = some o → ((h.push (W.kdv_tup us)).push (excO C h.objs.size)).get? b = some o := fun b o e => Heap.get?_push_of_some _ (Heap.get?_push_of_some _ e)
  have at1 := kept _ _ at_
  have new_ : ((h.push (W.kdv_tup us)).push (excO C h.objs.size)).get? (h.objs.size + 1) = some (excO C h.objs.size) := by heap_get
  have inC : (Value.ref C :: bm).contains (.ref C) = true := by simp
  have i1 := look.keeps kept
  have b1 := (bound (.ref (h.objs.size + 1))).keeps kept
  unfold isInstance
  repeat (first | with_reducible refine wpAny_loadPart_at new_ ?_ | (with_reducible refine wpAny_isSubtype_exc at1 ?_; rw [inC]) | wp_step)
  show wpAny _ _ (typeLookup (.ref C) _) _ _ _
  refine i1.at ?_
  refine wpAny_holding (wpAny_bind (b1.at ?_))
  refine wpAny_bind (wpAny_call (codeAny_mono k fun r s' z => ?_))
  rcases r with e | (v | _ | _ | _) <;> first | exact z | exact z.elim | skip
  obtain ⟨rfl, z⟩ := z
  first
    | exact wpAny_pure (wpAny_pure z)
    | (wp_walk; exact z)
theorem exc_call (F : ExcBaseFacts B newId initId bmB) (hT : ∀ Y : String, bm.contains (.type Y) = bmB.contains (.type Y)) {us : List Value} {kw : List (Str × Value)} {fI : Addr} (at_ : h.get? C = some (excClassObj nm q C N bs bm hdct sn sub ab col dd k0 k1 k2 k3 k5 newId))
    (look : W.Looks (model prog w) h (typeLookup (.ref C) "__init__") (some (.ref fI))) (bound : ∀ self, W.Looks (model prog w) h (bindSpecial (.ref fI) self) (.ref fI, [self])) (few : us.length ≤ sizeLine)
    (k : codeAny (model prog w) (A.under (.builtin "type.__call__" ⟨.ref C :: us, kw⟩)) (.call (.ref fI) ⟨.ref (h.objs.size + 1) :: us, kw⟩) (W.InitBack (h.objs.size + 1) R) ⟨(h.push (W.kdv_tup us)).push (excO C h.objs.size), g, d, t, os⟩) :
    codeAny (model prog w) A (.call (.ref C) ⟨us, kw⟩) R ⟨h, g, d, t, os⟩ := by
  have f1 := tc_lookup
  have f2 := tc_bind (.ref C)
  have ty : (⟨h, g, d, t, os⟩ : Shared).TypeIs (.ref C) "type" := ⟨_, at_, rfl⟩
  refine codeAny_of_tree ?_
  show wpAny _ _ (callAny (.ref C) _) _ _ _
  repeat (any_goals (first | assumption | with_reducible refine wpAny_loadPart_at at_ ?_ | wp_step))
  refine ⟨rfl, ?_⟩
  refine codeAny_call_builtin_at (Code.quiet_builtin _ (by decide +kernel)) entry_typeCall (wpAny_check_type_call_sub at_ (type_made F hT at_ look bound few ?_))
  refine codeAny_mono k fun r s' z => ?_
  rcases r with e | (v | _ | _ | _) <;> exact z
end
/-! ### own exceptions as values: what the written part says of a class, stores, reads, isinstance -/
structure ExK (K : PySem.W.Frag) (C : Addr) : Prop where
  ex : ∃ (B newId initId : String) (bmB : List Value), ExcBaseFacts B newId initId bmB ∧ StoreFacts B bmB "object.__setattr__" "object" ∧ PySem.W.excInitIn K C bmB newId = true ∧ PySem.W.excOver K C bmB = true
  sa : PySem.W.findIn K (.ref C) "__setattr__" = some (some (.builtin "object.__setattr__"))
  exC : PySem.W.subIn K (.ref C) (.type "BaseException") = some true
  tyC : PySem.W.typeIn K (.ref C) = some (.type "type")
  kC : PySem.W.keepIn K (.ref C) = true
  hd : PySem.W.hasDictIn K C = true
section
open Builtin Builtin.ObjectAttr PySem.HandSPX PySem.W
variable {prog : Program} {w : World} {A : Around} {R : Result → Shared → Prop} {hp : Heap} {g : Array GenState} {d : PySem.Drawn} {t : Nat} {os : OsState} {K : PySem.W.Frag} {name : Str} {tk : Tok} {v : Value} {x C : Addr}
theorem cls_dict (h : PySem.W.hasDictIn K C = true) : ∃ cd, PySem.W.clsIn K C = some cd ∧ cd.hasDict = true := any_some h
theorem put_first (T : ExK K C) {fv : Array Value} (X : K.In hp) (hx : hp.get? x = some { cls := .ref C, data := .fields fv }) (no : PySem.W.findIn K (.ref C) name = some none)
    (k : ∀ h' tk' dx, (∀ b o, b ≠ x → hp.get? b = some o → h'.get? b = some o) → hp.objs.size ≤ dx → dx ≠ x → h'.get? x = some { cls := .ref C, dict := some dx, data := .fields fv } →
      h'.Ns1 dx (fun y => if y = name then some v else none) → R (.ok (.ret .none)) ⟨h', g, d, tk', os⟩) :
    codeAny (model prog w) A (.call (.builtin "object.__setattr__") ⟨[.ref x, .str name tk, v], []⟩) R ⟨hp, g, d, t, os⟩ := by
  obtain ⟨B, newId, initId, bmB, F1, SF, q1, q2⟩ := T.ex
  obtain ⟨cd, hcd, hh⟩ := cls_dict T.hd
  have I : InstAt hp x { cls := .ref C, data := .fields fv } C none := ⟨hx, rfl, rfl, trivial⟩
  have away : x ≠ hp.objs.size := Nat.ne_of_lt (Heap.lt_size hx)
  have look : Looks (model prog w) hp (classData C) cd := looks_clsIn X hcd
  refine osa_openX SF X I q2 (r := none) (by unfold takerIn; rw [no]; rfl) fun b => ?_
  show wpAny _ _ (storeInOwnDict (.ref x) (.ref C) (.str name tk) name v b) _ _ _
  obtain ⟨nm, bs, mro, ns, qn, hd, sn, sb, ab, col, del⟩ := cd
  dsimp only at hh
  subst hh
  unfold storeInOwnDict ownDictForStores
  repeat (first | with_reducible refine store_in_new ?_ ?_ | with_reducible refine wpAny_loadPart_at hx ?_ | with_reducible refine look.at ?_ | wp_step)
  · exact ⟨_, #[], _, (Heap.get?_update_ne _ _ _ _ away.symm).trans (Heap.get?_push_at rfl rfl), rfl, fun e he => absurd he (by simp), fun _ => rfl⟩
  · intro h' tk' hn' hs
    have at1 : (hp.push { cls := .type "dict", data := .dict #[] }).get? x = some { cls := .ref C, data := .fields fv } := Heap.get?_push_of_some _ hx
    refine k h' tk' hp.objs.size (fun b o hb ho => ?_) (Nat.le_refl _) away.symm ?_ hn'
    · exact (hs.2 b (Nat.ne_of_lt (Heap.lt_size ho))).trans ((Heap.get?_update_ne _ _ _ _ hb).trans (Heap.get?_push_of_some _ ho))
    · exact (hs.2 x away).trans (Heap.get?_update_self _ at1 rfl)
theorem put_more (T : ExK K C) {fv : Array Value} {dx : Addr} {m0 : Str → Option Value} {nl : List Str} (X : K.In hp) (hx : hp.get? x = some { cls := .ref C, dict := some dx, data := .fields fv }) (hns : hp.Ns1 dx m0) (hw : Within m0 nl) (hz : nl.length ≤ 1000) (no : PySem.W.findIn K (.ref C) name = some none)
    (k : ∀ h' tk', (∀ b o, b ≠ dx → hp.get? b = some o → h'.get? b = some o) → h'.Ns1 dx (fun y => if y = name then some v else m0 y) → R (.ok (.ret .none)) ⟨h', g, d, tk', os⟩) :
    codeAny (model prog w) A (.call (.builtin "object.__setattr__") ⟨[.ref x, .str name tk, v], []⟩) R ⟨hp, g, d, t, os⟩ := by
  obtain ⟨B, newId, initId, bmB, F1, SF, q1, q2⟩ := T.ex
  obtain ⟨cd, hcd, hh⟩ := cls_dict T.hd
  obtain ⟨oD, esD, epD, hoD, hdD, _⟩ := hns.count hw
  have I : InstAt hp x { cls := .ref C, dict := some dx, data := .fields fv } C (some oD) := ⟨hx, rfl, rfl, hoD⟩
  have look : Looks (model prog w) hp (classData C) cd := looks_clsIn X hcd
  refine osa_openX SF X I q2 (r := none) (by unfold takerIn; rw [no]; rfl) fun b => ?_
  show wpAny _ _ (storeInOwnDict (.ref x) (.ref C) (.str name tk) name v b) _ _ _
  obtain ⟨nm, bs, mro, ns, qn, hd, sn, sb, ab, col, del⟩ := cd
  dsimp only at hh
  subst hh
  unfold storeInOwnDict ownDictForStores
  repeat (first | with_reducible refine PySem.OEX.store_in_old hns hw hz ?_ | with_reducible refine wpAny_loadPart_at hx ?_ | with_reducible refine look.at ?_ | wp_step)
  intro h' tk' hn' hs
  exact k h' tk' (fun b o hb ho => (hs.2 b hb).trans ho) hn'
end
section
variable {X : Cx} {pins : List (Addr × Obj)} {σ : L2.St} {H : Hp} {s : Shared} {a C dx : Addr} {f : Str} {y : V} {u : Value} {fs : List (Str × V)}
theorem put_newI {A : Around} {E : Value → Shared → Prop} {Q : Unit → Shared → Prop} (T : ExK X.K C) (I : Inv X pins σ H s) (e : H a = some (exo a C none)) (no : PySem.W.findIn X.K (.ref C) f = some none) (ry : RelV y u)
    (h : ∀ dx s', H dx = none → dx ≠ a → Inv X pins σ (upd (upd H dx (exd dx [(f, y)])) a (exo a C (some dx))) s' → Q () s') : wpAny (model X.prog X.w) A (setAttr (.ref a) f u) Q E s := by
  obtain ⟨t1, ho⟩ := exo_at I.hok e
  obtain ⟨hp, g, d, t, os⟩ := s
  refine PySem.W.set_plain I.kIn (ox := { cls := .ref C, dict := none, data := .fields #[.ref t1, .none, .none, .none, .bool false, .none] }) (od := none) ⟨ho, rfl, rfl, trivial⟩ T.sa ?_
  refine put_first T I.kIn ho no (fun h' tk' dx k dn dne hx hn => ?_)
  have fresh : H dx = none := I.hok.fresh dn
  have nd : ∀ {b : Addr} {o : Obj}, hp.get? b = some o → b ≠ dx := fun {b o} q => Nat.ne_of_lt (Nat.lt_of_lt_of_le (Heap.lt_size q) dn)
  have na : ∀ {b : Addr}, H b = none → b ≠ a := fun {b} n z => by
    rw [z, e] at n
    cases n
  have un : Un X.fs [] H (upd (upd H dx (exd dx [(f, y)])) a (exo a C (some dx))) hp h' :=
    ⟨fun b o q n _ _ => k b o (na n) q, fun b o q n _ _ => ⟨o.slots, k b o (na n) q⟩, fun b o q n _ => by rw [upd_ne (na n), upd_ne (nd q)]; exact n, fun b o q _ => by
      by_cases hb : b = a
      · exact ⟨_, by rw [hb]; exact hx⟩
      · exact ⟨o, k b o hb q⟩, fun b xs q => by rw [upd_ne (at_ne e q exo_tup), upd_ne (ne_of_none q fresh)]; exact q, fun b o v q => by rw [upd_ne (at_ne e q exo_frz), upd_ne (ne_of_none q fresh)]; exact q,
      fun b ps q => ⟨#[], by rw [upd_ne (at_ne e q exo_tbl), upd_ne (ne_of_none q fresh), q]; simp⟩⟩
  refine h dx _ fresh dne (I.un (t' := tk') un fun b o q => ?_)
  by_cases hb : b = a
  · subst hb
    rw [upd_same] at q
    cases q
    exact exo_ok hx
  · rw [upd_ne hb] at q
    by_cases hd : b = dx
    · subst hd
      rw [upd_same] at q
      cases q
      exact exd_ok hn (relO_put (fs := []) ry fun g => True.intro)
    · rw [upd_ne hd] at q
      refine (I.hok b o q).stay (fun c v hc z => k c v ?_ z) (fun c hc => ?_) (fun c xs hc => ?_)
      · rcases hc with hc | hc
        · rw [hc]
          exact hb
        · exact at_ne e hc exo_own
      · rw [upd_ne (at_ne e hc exo_own), upd_ne (ne_of_none hc fresh)]
        exact hc
      · rw [upd_ne (at_ne e hc exo_tup), upd_ne (ne_of_none hc fresh)]
        exact hc
theorem put_moreI {A : Around} {E : Value → Shared → Prop} {Q : Unit → Shared → Prop} (T : ExK X.K C) (I : Inv X pins σ H s) (e : H a = some (exo a C (some dx))) (ed : H dx = some (exd dx fs)) (hl : fs.length ≤ 900) (no : PySem.W.findIn X.K (.ref C) f = some none) (ry : RelV y u)
    (h : ∀ s', Inv X pins σ (upd H dx (exd dx ((f, y) :: fs))) s' → Q () s') : wpAny (model X.prog X.w) A (setAttr (.ref a) f u) Q E s := by
  obtain ⟨t1, ho⟩ := exo_at I.hok e
  obtain ⟨mA, hns, rel⟩ := exd_at I.hok ed
  have inn := within_of rel
  obtain ⟨hp, g, d, t, os⟩ := s
  obtain ⟨oD, _, _, hoD, _, _⟩ := hns.count inn
  refine PySem.W.set_plain I.kIn (ox := { cls := .ref C, dict := some dx, data := .fields #[.ref t1, .none, .none, .none, .bool false, .none] }) (od := some oD) ⟨ho, rfl, rfl, hoD⟩ T.sa ?_
  refine put_more T I.kIn ho hns inn (by rw [List.length_map]; omega) no (fun h' tk' k hn => ?_)
  have there : ∃ o, h'.get? dx = some o := by
    obtain ⟨o, _, _, e', _⟩ := hn
    exact ⟨o, e'⟩
  exact h _ (I.write (t' := tk') (x := dx) (e := dx) (o := exd dx ((f, y) :: fs)) (by rw [ed]; exact True.intro) (.inl rfl) k there (exd_ok hn (relO_put ry rel)))
/-- self.f = e -/
def tPut (K : PySem.W.Frag) (f : Str) (to te : TE) : TS := fun D σ H => te σ H fun y H1 => to σ H1 fun x H2 => ∃ a C : Addr, x = .ref a ∧ ExK K C ∧ PySem.W.findIn K (.ref C) f = some none ∧
  ((H2 a = some (exo a C none) ∧ ∀ dx, H2 dx = none → dx ≠ a → D.nx σ (upd (upd H2 dx (exd dx [(f, y)])) a (exo a C (some dx)))) ∨
    ∃ (dx : Addr) (fs : List (Str × V)), H2 a = some (exo a C (some dx)) ∧ H2 dx = some (exd dx fs) ∧ fs.length ≤ 900 ∧ D.nx σ (upd H2 dx (exd dx ((f, y) :: fs))))
theorem ps_put {o e : Expr} {to te : TE} {p pos : Pos} (ho : PE X o to) (he : PE X e te) (swap : swapsWith e (some (.Attribute o f p)) pos.line X.env = pure false := by rfl) : PS X (.Assign [.Attribute o f p] e pos) (tPut X.K f to te) := by
  refine ⟨fun pins s σ H D I h => ?_⟩
  refine plainObj_wpAny_Assign_Attribute (thn (he.run pins s σ H _ I h) fun v s1 ⟨y, H1, I1, r1, q1⟩ => thn (ho.run pins s1 σ H1 _ I1 q1) fun u s2 ⟨x, H2, I2, r2, a, C, ex, T, no, q⟩ => ?_) swap
  subst ex
  obtain rfl : u = Value.ref a := r2
  rcases q with ⟨ea, q⟩ | ⟨dx, fs, ea, ed, hl, q⟩
  · exact put_newI T I2 ea no r1 fun dx s' n ne J => ⟨σ, _, J, q dx n ne⟩
  · exact put_moreI T I2 ea ed hl no r1 fun s' J => ⟨σ, _, J, q⟩
/-- the making -/
theorem run_new {fI : Addr} {fd : FuncData} {ps : List Str} {sp : Sp} {k : Nat} {Q : VK} {us : List Value} {kw : List (Str × Value)} {full : Value → List Value} {fullV : V → List V} (T : ExK X.K C) (iC : PySem.W.findIn X.K (.ref C) "__init__" = some (some (.ref fI))) (tI : PySem.W.typeIn X.K (.ref fI) = some (.type "function"))
    (F1 : FnOk X.prog X.w X.K X.mg X.base CX0 k fI fd ps sp) (hr : Room (k + 1) X.A) (I : Inv X pins σ H s) (few : us.length ≤ sizeLine) (bind : ∀ (s : Shared) (self : Value), X.K.In s.heap → BindsTo s fd ⟨self :: us, kw⟩ (ps.zip (full self))) (rel : ∀ a, Vals (fullV (.ref a)) (full (.ref a)))
    (h : ∀ a, H a = none → sp (fullV (.ref a)) (upd H a (exo a C none)) (fun v H2 => v = .non ∧ Q (.ref a) H2) E0) : wpAny (model X.prog X.w) X.A (call (.ref C) us kw) (EP X pins σ Q) X.xe s := by
  obtain ⟨B, newId, initId, bmB, FB, SF, q1, q2⟩ := T.ex
  obtain ⟨nm, N', qn, bs, bm, hdct, sn, sub, ab, col, dd, k0, k1, k2, k3, k5, hC, hT⟩ := PySem.W.excInit_of I.kIn q1
  obtain ⟨hp, g, dr, tk, os⟩ := s
  have le1 : hp.objs.size ≤ hp.objs.size + 1 := Nat.le_succ _
  have hq := h (hp.objs.size + 1) (I.hok.fresh le1)
  have kept : ∀ b o, hp.get? b = some o → ((hp.push (PySem.W.kdv_tup us)).push (PySem.HandSPX.excO C hp.objs.size)).get? b = some o := fun b o e => Heap.get?_push_of_some _ (Heap.get?_push_of_some _ e)
  have new_ : ((hp.push (PySem.W.kdv_tup us)).push (PySem.HandSPX.excO C hp.objs.size)).get? (hp.objs.size + 1) = some (PySem.HandSPX.excO C hp.objs.size) := by heap_get
  have I2 : Inv X pins σ (upd H (hp.objs.size + 1) (exo (hp.objs.size + 1) C none)) ⟨(hp.push (PySem.W.kdv_tup us)).push (PySem.HandSPX.excO C hp.objs.size), g, dr, tk, os⟩ :=
    I.laid (t' := tk) (a := hp.objs.size + 1) (o := exo (hp.objs.size + 1) C none) (h' := (hp.push (PySem.W.kdv_tup us)).push (PySem.HandSPX.excO C hp.objs.size)) kept le1 (exo_ok new_)
  refine wpAny_call (exc_call FB hT hC (PySem.W.looks_findIn I.kIn iC) (fun self => PySem.W.bind_fn I.kIn self tI) few
    (codeAny_mono (F1.run _ X.stack _ _ ⟨Value.ref (hp.objs.size + 1) :: us, kw⟩ (full (.ref (hp.objs.size + 1))) _ _ E0 (hr.make C us kw) (I2.env0.make C us kw) (bind _ _ I2.kIn) (rel _) hq) fun r s' hq' => ?_))
  cases r with
  | error er => exact hq'.elim
  | ok fl =>
    cases fl with
    | ret u =>
      obtain ⟨v, H', I3, rv, ev, q3⟩ := I2.after hq'
      subst ev
      exact ⟨rv, V.ref (hp.objs.size + 1), H', I3, rfl, q3⟩
    | next => exact False.elim hq'
    | brk => exact False.elim hq'
    | cont => exact False.elim hq'
end
section
variable {X : Cx} {fI C : Addr} {fd : FuncData} {ps ks : List Str} {sp : Sp} {k : Nat} {x f : Str} {p pos : Pos} {e : Expr} {es : List Expr} {ta : TA} {kws : List Keyword} {tk : TA} {g : List Value → List Value → List Value} {gV : List V → List V → List V}
/-- C(e, ..) -/
def tNew (C : Addr) (sp : Sp) (ta : TA) : TE := fun σ H Q => ta σ H fun vs H1 => vs.length ≤ 1000 ∧ ∀ a, H1 a = none → sp (.ref a :: vs) (upd H1 a (exo a C none)) (fun v H2 => v = .non ∧ Q (.ref a) H2) E0
theorem pe_new (T : ExK X.K C) (iC : PySem.W.findIn X.K (.ref C) "__init__" = some (some (.ref fI))) (tI : PySem.W.typeIn X.K (.ref fI) = some (.type "function")) (F1 : FnOk X.prog X.w X.K X.mg X.base CX0 k fI fd ps sp) (hr : Room (k + 1) X.A) (hb : Binds X.K fd ps []) (gl : Gl X x) (at_ : X.mg x = some (.ref C)) (ar : PA X (e :: es) ta)
    (nodb : (x == ("__debug__" : Str)) = false := by decide) (star : starEach (e :: es) X.env = (false, eval e X.env) :: starEach es X.env := by rfl) (plain : (backTo pos (starEach es X.env)).any (·.1) = false := by rfl) :
    PE X (.Call (.Name x p) (e :: es) [] pos) (tNew C sp ta) := by
  refine ⟨fun pins s σ H Q I h => wpAny_Call_Name_kw (ld_glob I gl at_ (PySem.W.callWith_K (h₀ := X.base) I.ok.mod.kin T.kC (thn (ar.run pos pins s σ H _ I h) fun us s1 ⟨vs, H1, J, r, hz, q⟩ => ⟨J.kIn, ?_⟩) star plain) nodb)⟩
  have lz : us.length ≤ sizeLine := by
    rw [← r.length, sizeLine_eq]
    omega
  refine run_new (full := fun self => self :: us) (fullV := fun z => z :: vs) (kw := []) T iC tI F1 hr J lz (fun s self Y => ?_) (fun a => .cons rfl r) q
  have l1 : (self :: us ++ []).length = ps.length := by
    rw [List.append_nil, List.length_cons, ← r.length]
    have z := F1.len _ _ _ _ (q (s1.heap.objs.size) (J.hok.fresh (Nat.le_refl _)))
    rw [List.length_cons] at z
    exact z
  have b1 := hb s (self :: us) Y l1
  rw [List.append_nil] at b1
  exact b1
/-- C(k = v, ..) -/
def tNewK (C : Addr) (m : Nat) (sp : Sp) (gV : List V → List V → List V) (tk : TA) : TE := fun σ H Q => tk σ H fun zs H1 => zs.length = m ∧ ∀ a, H1 a = none → sp (gV [.ref a] zs) (upd H1 a (exo a C none)) (fun v H2 => v = .non ∧ Q (.ref a) H2) E0
theorem pe_newK (T : ExK X.K C) (iC : PySem.W.findIn X.K (.ref C) "__init__" = some (some (.ref fI))) (tI : PySem.W.typeIn X.K (.ref fI) = some (.type "function")) (F1 : FnOk X.prog X.w X.K X.mg X.base CX0 k fI fd ps sp) (hr : Room (k + 1) X.A) (kb : KBn X.K fd ps 1 ks g gV) (gl : Gl X x) (at_ : X.mg x = some (.ref C)) (kw : PK X kws tk)
    (all_ : (backToKw pos (keywordEach kws X.env)).all (·.1.isSome) = true := by rfl) (names : (backToKw pos (keywordEach kws X.env)).filterMap (·.1) = ks := by rfl) (nodb : (x == ("__debug__" : Str)) = false := by decide)
    (plain : ((backTo pos (starEach [] X.env)).any (·.1) || (backToKw pos (keywordEach kws X.env)).any (·.1.isNone)) = false := by rfl) : PE X (.Call (.Name x p) [] kws pos) (tNewK C ks.length sp gV tk) := by
  refine ⟨fun pins s σ H Q I h => wpAny_Call_Name_kw (ld_glob I gl at_ (PySem.W.callWith_KW0 (h₀ := X.base) I.ok.mod.kin T.kC all_ (thn (kw.run pos pins s σ H _ I h) fun ws s2 ⟨zs, H2, I2, rz, l2, q2⟩ => ⟨I2.kIn, ?_⟩) plain) nodb)⟩
  rw [names]
  exact run_new (us := []) (full := fun self => g [self] ws) (fullV := fun z => gV [z] zs) T iC tI F1 hr I2 (Nat.zero_le _) (fun s self Y => kb.to s [self] ws Y rfl (rz.length.symm.trans l2)) (fun a => kb.rel (.cons rfl .nil) rz) q2
/-- C(), C without an own __init__ -/
def tNew0 (C : Addr) : TE := fun _ H Q => ∀ a, H a = none → Q (.ref a) (upd H a (exo a C none))
theorem pe_new0 {bmB : List Value} {B newId initId : String} (F : ExcBaseFacts B newId initId bmB) (q : PySem.W.excIn X.K C bmB newId = true) (at_ : X.mg x = some (.ref C)) (kC : PySem.W.keepIn X.K (.ref C) = true) (gl : Gl X x) (nodb : (x == ("__debug__" : Str)) = false := by decide) :
    PE X (.Call (.Name x p) [] [] pos) (tNew0 C) := by
  refine ⟨fun pins s σ H Q I h => wpAny_Call_Name_kw (ld_glob I gl at_ (PySem.W.callWith_K0 I.kIn kC ?_) nodb)⟩
  show wpAny _ _ (call (.ref C) []) _ _ _
  obtain ⟨bm, N, nm, qn, bs, hdct, sn, sub, ab, col, dd, k0, k1, k2, k3, k5, mN, hC, hN, hni, T⟩ := exc_obj I.kIn q
  obtain ⟨hp, g, dr, tk, os⟩ := s
  refine wpAny_call_exc_subT F T hC hN hni (fun h' e' hm => ?_) (Nat.zero_le _)
  obtain ⟨t, he, _, _⟩ := hm.there
  have hn : H e' = none := I.hok.gone hm.new
  exact ⟨.ref e', _, I.laidN (t' := tk) hm.keeps hm.new hn (exo_ok he), rfl, h e' hn⟩
/-- o.f of an exception -/
def tFld (K : PySem.W.Frag) (f : Str) (te : TE) : TE := fun σ H Q => te σ H fun x H1 => ∃ (a C dd : Addr) (fs : List (Str × V)) (v : V), x = .ref a ∧ XfC K C ∧ PySem.W.findIn K (.ref C) f = some none ∧ H1 a = some (exo a C (some dd)) ∧ H1 dd = some (exd dd fs) ∧ fs.lookup f = some v ∧ Q v H1
theorem pe_fld {te : TE} (he : PE X e te) (hb : attributeBase e f X.env (eval e X.env) = eval e X.env := by rfl) : PE X (.Attribute e f pos) (tFld X.K f te) := by
  refine ⟨fun pins s σ H Q I h => ?_⟩
  refine attr_of hb (thn (he.run pins s σ H _ I h) fun u s1 ⟨x, H1, I1, rx, a, C, dd, fs, v, ex, T, no, ea, ed, l, q⟩ => ?_)
  subst ex
  obtain rfl : u = Value.ref a := rx
  obtain ⟨t1, ho⟩ := exo_at I1.hok ea
  obtain ⟨mA, hns, hr⟩ := exd_at I1.hok ed
  obtain ⟨od, hod, hl⟩ := lookIn_ns hns
  obtain ⟨u, hu, ru⟩ := RelO.some_of (v := v) (o := mA f) (by rw [← l]; exact hr f)
  have J : PySem.W.InstAt s1.heap a { cls := .ref C, dict := some dd, data := .fields #[.ref t1, .none, .none, .none, .bool false, .none] } C (some od) := ⟨ho, rfl, rfl, hod⟩
  exact HandSPX.exc_get I1.kIn J T.ga T.gg T.exC (PySem.W.findObj_own T.hdC no rfl (by rw [hl, hu])) (handed_of ru) ⟨v, H1, I1.tok _, ru, q⟩
/-- isinstance of an exception -/
structure ExI (K : PySem.W.Frag) (C : Addr) : Prop where
  ga : PySem.W.findIn K (.ref C) "__getattribute__" = some (some (.builtin "BaseException.__getattribute__"))
  gg : PySem.W.findIn K (.ref C) "__getattr__" = some none
  exC : PySem.W.subIn K (.ref C) (.type "BaseException") = some true
  cl : (PySem.W.clsIn K C).isSome = true
  cls : PySem.W.findIn K (.ref C) "__class__" = some (some (.builtin "object.__class__"))
  get : PySem.W.specialIn K (.builtin "object.__class__") "__get__" = some (some (.builtin "getset_descriptor.__get__"))
  tak : PySem.W.takesIn K (.builtin "object.__class__") = some true
  mro : PySem.W.mroIn K C (.type "object") = some true
def rIsE (K : PySem.W.Frag) : List V → Hp → VK → Prop := fun xs H Q => ∃ (a C : Addr) (d : Option Addr) (c : V) (u : Value) (b : Bool), xs = [.ref a, c] ∧ H a = some (exo a C d) ∧ (∀ dd, d = some dd → ∃ fs, H dd = some (exd dd fs)) ∧ ExI K C ∧ ClsV c u ∧ PySem.W.kitOne K (.ref C) u = some b ∧ Q (.bl b) H
theorem call_isE : CallR X (.builtin "isinstance") (rIsE X.K) := by
  intro pins s σ H xs us Q I r h
  obtain ⟨a, C, d, c, u, b, rfl, ea, ed, T, k, hk, q⟩ := h
  obtain ⟨u1, u2, rfl, r1, r2⟩ := vals2 r
  have e2 := k.eq r2
  subst e2
  cases (show u1 = Value.ref a from r1)
  obtain ⟨t1, ho⟩ := exo_at I.hok ea
  have hod : ∃ od, PySem.W.InstAt s.heap a { cls := .ref C, dict := d, data := .fields #[.ref t1, .none, .none, .none, .bool false, .none] } C od := by
    cases d with
    | none => exact ⟨none, ho, rfl, rfl, trivial⟩
    | some dd =>
      obtain ⟨fs, e⟩ := ed dd rfl
      obtain ⟨mA, hns, _⟩ := exd_at I.hok e
      obtain ⟨od, hod, _⟩ := lookIn_ns hns
      exact ⟨some od, ho, rfl, rfl, hod⟩
  obtain ⟨od, J⟩ := hod
  exact PySem.W.kia_one (PySem.W.kitx_exc T.cl T.ga T.gg T.exC T.cls T.get T.tak T.mro) I.kIn J hk (fun z => nomatch z) fun tk => ⟨.bl b, H, I.tok tk, rfl, q⟩
end
/-! ### promises of calls that are made while no repr is under way -/
structure FnG (P : Program) (w : World) (K : PySem.W.Frag) (mg : Str → Option Value) (base : Heap) (k : Nat) (f : Addr) (fd : FuncData) (ps : List Str) (sp : Sp) : Prop where
  len : ∀ vs H Q E, sp vs H Q E → vs.length = ps.length
  run : ∀ (A : Around) (outer : List Env) (s : Shared) (H : Hp) (args : Args) (us : List Value) (vs : List V) (Q : VK) (E : XK), Room k A → A.guards = some [] → Env0 P w K mg base A outer s H →
    BindsTo s fd args (ps.zip us) → Vals vs us → sp vs H Q E → codeAny (model P w) A (.call (.ref f) args) (CR CX0 outer P w H s Q E) s
section
variable {P : Program} {w : World} {K : PySem.W.Frag} {mg : Str → Option Value} {base : Heap}
theorem okG {x qual : Str} {st : Stmt} {f : Addr} {fd : FuncData} {N ps : List Str} {k : Nat} {sp : Sp} (F : Fun K x qual st f fd) (S : FnScope N ps (defScope st)) (len : ∀ vs H Q E, sp vs H Q E → vs.length = ps.length)
    (walk : ∀ (cdv : Value) (A : Around) (outer : List Env) (s : Shared) (H : Hp) (vs : List V) (Q : VK) (E : XK), Room k (A.deeper (envOfC qual (defScope st) s.heap.objs.size f cdv)) → A.guards = some [] → sp vs H Q E →
      ∃ t, PSs (cxOf CX0 P w K mg base N qual (defScope st) f cdv A outer s H E).nox (defBody st) t ∧ t { nx := fun _ H' => Q .non H', rt := Q } (start N vs) H) : FnG P w K mg base (k + 1) f fd ps sp := by
  obtain ⟨_, _, _, _, _, _, cd, _, _, rfl, stands, coded⟩ := F.ex
  refine ⟨len, fun A outer s H args us vs Q E room free env bind rel pr => ?_⟩
  obtain ⟨t, steps, reading⟩ := walk cd A outer s H vs Q E (room.deeper _) free pr
  have here : K.In s.heap := env.mod.kin.keeps fun c o e => (env.bs c o e).1
  refine codeAny_call_function room.depth (here _ _ stands) rfl S.co S.gen rfl (PySem.W.codeRec_of here coded) (bind _ _ _ _ (wpAny_newFunctionEnv_cells S.kind (fun y hy => ?_) fun e1 he1 s1 entry => ?_))
  · exact (S.par y.1 (List.of_mem_zip (show (y.1, y.2) ∈ ps.zip us from hy)).1).elim .inl fun c => .inr ⟨c, PySem.W.cellsFrom_some _ _ _ (.inl c)⟩
  · cases he1
    refine ⟨(env.mod.nolimit.keeps fun c o e => (env.bs c o e).1).keeps entry.toInCall.keep, codeAny_func ?_⟩
    refine wpAny_mono (steps.nox.run [] s1 (start N vs) H _ (inv_start S room.hd env (len _ _ _ _ pr) rel entry) reading) (fun fl s2 ends => ?_) fun e s2 h => h
    match fl, ends with
    | .ret u, ⟨v, σ2, H2, J, rv, q⟩ => exact ⟨v, H2, J.os, J.bare, J.base, J.hok, rv, q⟩
    | .next, ⟨σ2, H2, J, q⟩ => exact ⟨.non, H2, J.os, J.bare, J.base, J.hok, rfl, q⟩
    | .brk, ⟨_, _, _, q⟩ => exact q.elim
    | .cont, ⟨_, _, _, q⟩ => exact q.elim
end
section
variable {X : Cx} {k : Nat} {f : Addr} {fd : FuncData} {ps : List Str} {sp : Sp} {x : Str} {p pos : Pos} {e : Expr} {es : List Expr} {t : TA} {E : XK}
theorem pe_callG (F : FnG X.prog X.w X.K X.mg X.base k f fd ps sp) (room : Room k X.A) (free : X.A.guards = some []) (gl : Gl X x) (at_ : X.mg x = some (.ref f)) (kp : PySem.W.keepIn X.K (.ref f) = true) (bn : Binds X.K fd ps []) (out : Passes CX0 X E)
    (ar : PA X (e :: es) t) (nodb : (x == ("__debug__" : Str)) = false := by decide) (star : starEach (e :: es) X.env = (false, eval e X.env) :: starEach es X.env := by rfl) (plain : (backTo pos (starEach es X.env)).any (·.1) = false := by rfl) :
    PE X (.Call (.Name x p) (e :: es) [] pos) (tCall sp [] E t) := by
  refine ⟨fun pins s σ H Q I h => wpAny_Call_Name_kw (ld_glob I gl at_ (PySem.W.callWith_K (h₀ := X.base) I.ok.mod.kin kp (thn (ar.run pos pins s σ H _ I h) fun us s1 ⟨vs, H1, J, r, q⟩ => ⟨J.kIn, ?_⟩) star plain) nodb)⟩
  have q1 : sp vs H1 Q E := by
    have q0 : sp (vs ++ []) H1 Q E := q
    rw [List.append_nil] at q0
    exact q0
  have b1 := bn s1 us J.kIn (by rw [List.append_nil, ← r.length]; exact F.len _ _ _ _ q1)
  rw [List.append_nil] at b1
  refine wpAny_call (codeAny_mono (F.run X.A X.stack s1 H1 ⟨us, []⟩ us vs Q E room free J.env0 b1 r q1) fun res s2 hq => ?_)
  match res, hq with
  | .error e, hq => exact out pins σ H1 s1 e s2 J hq
  | .ok (.ret u), hq => exact J.after hq
end
/-- repr of data: its text hangs on the data alone -/
theorem call_reprD {X : Cx} (free : X.A.guards = some []) (hu : X.A.units + 65 < cLine) : CallR X (.builtin "repr") (fun xs H Q => ∃ (a : Addr) (d : PyData), xs = [.ref a] ∧ Dp X.K H (.ref a) d ∧ d.showable = true ∧ d.hasDict = false ∧ d.depth + 1 ≤ 64 ∧ d.shown.length ≤ sizeLine ∧ Q (.str d.shown) H) := by
  intro pins s σ H xs us Q I r h
  obtain ⟨a, d, rfl, hd, hs, hn, hz, hl, q⟩ := h
  obtain ⟨u, rfl, ru⟩ := vals1 r
  cases ru
  obtain ⟨as, rd⟩ := Dp.reads I d (.ref a) (.ref a) hd rfl
  refine repr_of_reads' rd hs (fun z => by rw [hn] at z; cases z) free (by omega) (fun _ _ e => e) (fun h' u tk hk => ?_) hl
  exact ⟨.str d.shown, H, I.kept hk, ⟨_, rfl⟩, q⟩
/-! ### the law's own call, with nothing under way -/
section
variable {P : Program} {w : World} {K : PySem.W.Frag} {mg mb : Str → Option Value} {k : Nat} {fa a : Addr} {fd : FuncData} {x : Str} {sp : Sp} {s1 : Shared} {vs : List Value} {ns : List Int}
/-- what is tracked at the begin: the script alone, locked, or nothing where the top holds it -/
theorem first_heap (KX : K.In s1.heap) (ha : s1.heap.get? a = some { cls := .type "list", data := .seq vs.toArray }) (hi : IntsAre vs ns) (hl : ns.length ≤ sizeLine) :
    ∃ H : Hp, SqL K H a (ns.map V.int) ∧ HOk P w H s1.heap ∧ ∀ b, H b = none ∨ (b = a ∧ K.lookup a = none ∧ ∃ u, H a = some (.frz { cls := .type "list", data := .seq vs.toArray } u)) := by
  have rel := vals_ints hi
  have size := hi.length
  match top : K.lookup a with
  | some o =>
    have same := (KX a o top).symm.trans ha
    cases same
    exact ⟨fun _ => none, .inr ⟨_, vs.toArray, _, top, rfl, rfl, rfl, by rw [List.size_toArray, size]; exact hl, by simpa using rel⟩, fun b u z => (nomatch (show (none : Option HO) = some u from z)), fun b => .inl rfl⟩
  | none =>
    refine ⟨upd (fun _ => none) a (.frz { cls := .type "list", data := .seq vs.toArray } (.lst (ns.map V.int))), .inl (.inr ⟨_, upd_same⟩), fun b u z => ?_, fun b => ?_⟩
    · by_cases at_ : b = a
      · subst at_
        rw [upd_same] at z
        cases z
        exact ⟨ha, by rw [List.length_map]; exact hl, vs, _, rel, ha⟩
      · rw [upd_ne at_] at z
        cases z
    · by_cases at_ : b = a
      · exact .inr ⟨at_, rfl, _, upd_same⟩
      · exact .inl (upd_ne at_)
theorem law_callG (KX : K.In s1.heap) (hns : s1.heap.Ns mainGlobals mg) (hbn : s1.heap.Ns builtinsNs mb) (hbb : ∀ x : Str, x ≠ "__name__" → mb x = bootBuiltins x) (hlim : s1.heap.NoLimit) (hg : s1.gens = #[])
    (ha : s1.heap.get? a = some { cls := .type "list", data := .seq vs.toArray }) (hi : IntsAre vs ns) (hl : ns.length ≤ sizeLine) (room : Room k callerA)
    (F : ∀ base : Heap, FnG P w K mg base k fa fd [x] sp) (bind : ∀ (s : Shared) (u : Value), BindsTo s fd ⟨[u], []⟩ [(x, u)]) (hsp : ∀ H : Hp, SqL K H a (ns.map V.int) → sp [.ref a] H (fun v _ => v = .bl true) E0) :
    codeAny (model P w) callerA (.call (.ref fa) ⟨[.ref a], []⟩) (fun r s' => r = .ok (.ret (.bool true)) ∧ OldK s1.heap s'.heap ∧ s'.os = s1.os ∧ AllBare s'.gens) s1 := by
  obtain ⟨H, script, held, only⟩ := first_heap (P := P) (w := w) KX ha hi hl
  have free : ∀ {b : Addr} {o : Obj}, s1.heap.get? b = some o → (∀ it n, o.data ≠ .seq it n) → H b = none := fun {b o} e nl => (only b).elim id fun ⟨z, _⟩ => by
    subst z
    cases e.symm.trans ha
    exact absurd rfl (nl _ _)
  have spaces : ∀ {b : Addr} {m : Str → Option Value}, s1.heap.Ns b m → (hidT s1.heap H).Ns b m := fun ⟨o, es, ep, e, d, r⟩ => ⟨o, es, ep, hidT_get e (free e fun it n z => by rw [d] at z; cases z), d, r⟩
  have inBase : K.In (hidT s1.heap H) := fun b o e => hidT_get (KX b o e) ((only b).elim id fun ⟨z, no, _⟩ => by
    rw [z, no] at e
    cases e)
  have env : Env0 P w K mg (hidT s1.heap H) callerA [] s1 H :=
    { frames := rfl, mod := ⟨inBase, spaces hns, ⟨mb, spaces hbn, hbb⟩, hlim.elim fun mc h => ⟨mc, spaces h.1, h.2⟩⟩, bs := fun b o e => of_hidT e, bsz := Nat.le_of_eq (hidT_size _ _), funs := trivial, frf := fun b hb => (nomatch (show b ∈ ([] : List Addr) from hb)), hok := held, bare := .of_eq hg }
  refine codeAny_mono ((F _).run callerA [] s1 H ⟨[.ref a], []⟩ [.ref a] [.ref a] _ _ room rfl env (bind s1 (.ref a)) (.cons rfl .nil) (hsp H script)) fun r s2 ends => ?_
  match r, ends with
  | .ok (.ret u), ⟨v, H2, os, bare, un, held2, rv, (is : v = .bl true)⟩ =>
    subst is
    cases (show u = Value.bool true from rv)
    refine ⟨rfl, OldK.of_keep fun b o e => ?_, os, bare⟩
    match only b with
    | .inl n => exact un.keep b o e n (fun z => (nomatch (show b ∈ ([] : List Addr) from z))) (fun z => (nomatch (show b ∈ ([] : List Addr) from z)))
    | .inr ⟨z, _, u2, hz⟩ =>
      subst z
      have l1 := (held b _ hz).1
      have l2 := (held2 b _ (un.frzs b _ _ hz)).1
      exact (l2.trans (l1.symm.trans e))
end
theorem walk_ofG {l : PySem.W.OpenLaw} {n k : Nat} {q : Program} {loose : List Str} {XP : (Str → Option Value) → Heap → Prop} {YP : World → Heap → Prop} {d : DefRec} {K : Params → PySem.W.Frag} {sp : World → Sp} {x : Str} (hn : l.most = some n) (hn2 : n ≤ sizeLine) (hdf : d.params.defaults = []) (room : Room k callerA)
    (top : ∀ (w : World) (h : Heap), YP w h → (K w.params).In h)
    (F : ∀ (w : World) (mg : Str → Option Value) (fa : Addr) (h : Heap), (K w.params).In h → h.Ns mainGlobals mg → mg d.name = some (.ref fa) → ∃ fd : FuncData, (∀ (s : Shared) (u : Value), BindsTo s fd ⟨[u], []⟩ [(x, u)]) ∧ ∀ base : Heap, FnG l.prog w (K w.params) mg base k fa fd [x] (sp w))
    (hsp : ∀ (w : World) (H : Hp) (a : Addr) (ns : List Int), ns.length ≤ n → SqL (K w.params) H a (ns.map V.int) → sp w [.ref a] H (fun v _ => v = .bl true) E0) :
    PySem.W.WalkO q loose XP YP l.row.toRowW d [] (fun f vs => PySem.call f vs) :=
  Att.attach_call hn hdf fun w s0 s1 mg mb fa o pm cd doc a vs ns G Y ho hd hcd hmg hobj hints hlen hg => by
    obtain ⟨fd, hb, hF⟩ := F w mg fa _ (top w _ Y) G.T.g hmg
    exact law_callG (top w _ Y) G.T.g G.T.b G.T.builtins G.T.nolimit hg hobj hints (Nat.le_trans hlen hn2) room hF hb fun H hS => hsp w H a ns hlen hS
def topS (i : Nat) : Stmt := PySem.Challenge.pw_ownrail_k01_refusals.main.body.getD i (.Pass ⟨0, 0, 0, 0⟩)
abbrev s__law_box : Stmt := topS 16
abbrev N__law_box : List Str := ["_law_script", "_law_turn", "_law_cell", "_law_seed"]
theorem sc__law_box : FnScope N__law_box ["_law_script", "_law_turn"] (defScope s__law_box) := ⟨rfl, rfl, rfl, by decide +kernel, rfl, by decide +kernel, by decide +kernel⟩
abbrev s__law_take : Stmt := topS 17
abbrev N__law_take : List Str := ["_law_box_here", "_law_many", "_law_digit", "_law_one"]
theorem sc__law_take : FnScope N__law_take ["_law_box_here", "_law_many"] (defScope s__law_take) := ⟨rfl, rfl, rfl, by decide +kernel, rfl, by decide +kernel, by decide +kernel⟩
abbrev s__law_thing : Stmt := topS 18
abbrev N__law_thing : List Str := ["_law_box_here", "_law_text", "_law_j"]
theorem sc__law_thing : FnScope N__law_thing ["_law_box_here"] (defScope s__law_thing) := ⟨rfl, rfl, rfl, by decide +kernel, rfl, by decide +kernel, by decide +kernel⟩
abbrev s__law_made : Stmt := topS 19
abbrev N__law_made : List Str := ["_law_one", "_law_other", "_law_found"]
theorem sc__law_made : FnScope N__law_made ["_law_one", "_law_other"] (defScope s__law_made) := ⟨rfl, rfl, rfl, by decide +kernel, rfl, by decide +kernel, by decide +kernel⟩
abbrev s__law_named : Stmt := topS 20
abbrev N__law_named : List Str := ["_law_one", "_law_other", "_law_found"]
theorem sc__law_named : FnScope N__law_named ["_law_one", "_law_other"] (defScope s__law_named) := ⟨rfl, rfl, rfl, by decide +kernel, rfl, by decide +kernel, by decide +kernel⟩
abbrev s__law_fields : Stmt := topS 21
abbrev N__law_fields : List Str := ["_law_lot", "_law_found"]
theorem sc__law_fields : FnScope N__law_fields ["_law_lot"] (defScope s__law_fields) := ⟨rfl, rfl, rfl, by decide +kernel, rfl, by decide +kernel, by decide +kernel⟩
abbrev s__law_sorts : Stmt := topS 22
abbrev N__law_sorts : List Str := ["_law_e", "_law_found"]
theorem sc__law_sorts : FnScope N__law_sorts ["_law_e"] (defScope s__law_sorts) := ⟨rfl, rfl, rfl, by decide +kernel, rfl, by decide +kernel, by decide +kernel⟩
abbrev s__law_above : Stmt := topS 23
abbrev N__law_above : List Str := ["_law_e", "_law_found"]
theorem sc__law_above : FnScope N__law_above ["_law_e"] (defScope s__law_above) := ⟨rfl, rfl, rfl, by decide +kernel, rfl, by decide +kernel, by decide +kernel⟩
abbrev s_law : Stmt := topS 24
abbrev N_law : List Str := ["_law_script", "_law_turn", "_law_box_here", "_law_one", "_law_other", "_law_due", "_law_lot", "_law_n", "_law_e", "_law_j"]
theorem sc_law : FnScope N_law ["_law_script"] (defScope s_law) := ⟨rfl, rfl, rfl, by decide +kernel, rfl, by decide +kernel, by decide +kernel⟩
def inS (i j : Nat) : Stmt := (match topS i with | .ClassDef (body := b) .. => b | _ => []).getD j (.Pass ⟨0, 0, 0, 0⟩)
abbrev s_NoEngine : Stmt := inS 2 0
abbrev N_NoEngine : List Str := ["self", "word"]
theorem sc_NoEngine : FnScope N_NoEngine ["self", "word"] (defScope s_NoEngine) := ⟨rfl, rfl, rfl, by decide +kernel, rfl, by decide +kernel, by decide +kernel⟩
abbrev s_NoYard : Stmt := inS 3 0
abbrev N_NoYard : List Str := ["self", "word", "number"]
theorem sc_NoYard : FnScope N_NoYard ["self", "word", "number"] (defScope s_NoYard) := ⟨rfl, rfl, rfl, by decide +kernel, rfl, by decide +kernel, by decide +kernel⟩
abbrev s_NoText : Stmt := inS 4 0
abbrev N_NoText : List Str := ["self", "at"]
theorem sc_NoText : FnScope N_NoText ["self", "at"] (defScope s_NoText) := ⟨rfl, rfl, rfl, by decide +kernel, rfl, by decide +kernel, by decide +kernel⟩
abbrev s_OwnWay : Stmt := inS 5 0
abbrev N_OwnWay : List Str := ["self", "number"]
theorem sc_OwnWay : FnScope N_OwnWay ["self", "number"] (defScope s_OwnWay) := ⟨rfl, rfl, rfl, by decide +kernel, rfl, by decide +kernel, by decide +kernel⟩
abbrev s_TooMany : Stmt := inS 6 0
abbrev N_TooMany : List Str := ["self", "most"]
theorem sc_TooMany : FnScope N_TooMany ["self", "most"] (defScope s_TooMany) := ⟨rfl, rfl, rfl, by decide +kernel, rfl, by decide +kernel, by decide +kernel⟩
abbrev s_TooLong : Stmt := inS 7 0
abbrev N_TooLong : List Str := ["self", "most"]
theorem sc_TooLong : FnScope N_TooLong ["self", "most"] (defScope s_TooLong) := ⟨rfl, rfl, rfl, by decide +kernel, rfl, by decide +kernel, by decide +kernel⟩
abbrev s_Full : Stmt := inS 8 0
abbrev N_Full : List Str := ["self", "most"]
theorem sc_Full : FnScope N_Full ["self", "most"] (defScope s_Full) := ⟨rfl, rfl, rfl, by decide +kernel, rfl, by decide +kernel, by decide +kernel⟩
abbrev s_NoColour : Stmt := inS 9 0
abbrev N_NoColour : List Str := ["self", "colour"]
theorem sc_NoColour : FnScope N_NoColour ["self", "colour"] (defScope s_NoColour) := ⟨rfl, rfl, rfl, by decide +kernel, rfl, by decide +kernel, by decide +kernel⟩
abbrev s_Broken : Stmt := inS 10 0
abbrev N_Broken : List Str := ["self", "at"]
theorem sc_Broken : FnScope N_Broken ["self", "at"] (defScope s_Broken) := ⟨rfl, rfl, rfl, by decide +kernel, rfl, by decide +kernel, by decide +kernel⟩
abbrev s_NoNumber : Stmt := inS 12 0
abbrev N_NoNumber : List Str := ["self", "number"]
theorem sc_NoNumber : FnScope N_NoNumber ["self", "number"] (defScope s_NoNumber) := ⟨rfl, rfl, rfl, by decide +kernel, rfl, by decide +kernel, by decide +kernel⟩
abbrev s_NoRail : Stmt := inS 13 0
abbrev N_NoRail : List Str := ["self", "number", "place"]
theorem sc_NoRail : FnScope N_NoRail ["self", "number", "place"] (defScope s_NoRail) := ⟨rfl, rfl, rfl, by decide +kernel, rfl, by decide +kernel, by decide +kernel⟩
abbrev s_NoStood : Stmt := inS 14 0
abbrev N_NoStood : List Str := ["self", "k"]
theorem sc_NoStood : FnScope N_NoStood ["self", "k"] (defScope s_NoStood) := ⟨rfl, rfl, rfl, by decide +kernel, rfl, by decide +kernel, by decide +kernel⟩
structure Txt (K : PySem.W.Frag) (w : World) (mg : Str → Option Value) where
  f__law_box : Addr
  fd__law_box : FuncData
  F__law_box : Fun K "_law_box" "_law_box" s__law_box f__law_box fd__law_box
  b__law_box : Binds K fd__law_box ["_law_script", "_law_turn"] []
  g__law_box : mg "_law_box" = some (.ref f__law_box)
  f__law_take : Addr
  fd__law_take : FuncData
  F__law_take : Fun K "_law_take" "_law_take" s__law_take f__law_take fd__law_take
  b__law_take : Binds K fd__law_take ["_law_box_here", "_law_many"] []
  g__law_take : mg "_law_take" = some (.ref f__law_take)
  f__law_thing : Addr
  fd__law_thing : FuncData
  F__law_thing : Fun K "_law_thing" "_law_thing" s__law_thing f__law_thing fd__law_thing
  b__law_thing : Binds K fd__law_thing ["_law_box_here"] []
  g__law_thing : mg "_law_thing" = some (.ref f__law_thing)
  f__law_made : Addr
  fd__law_made : FuncData
  F__law_made : Fun K "_law_made" "_law_made" s__law_made f__law_made fd__law_made
  b__law_made : Binds K fd__law_made ["_law_one", "_law_other"] []
  g__law_made : mg "_law_made" = some (.ref f__law_made)
  f__law_named : Addr
  fd__law_named : FuncData
  F__law_named : Fun K "_law_named" "_law_named" s__law_named f__law_named fd__law_named
  b__law_named : Binds K fd__law_named ["_law_one", "_law_other"] []
  g__law_named : mg "_law_named" = some (.ref f__law_named)
  f__law_fields : Addr
  fd__law_fields : FuncData
  F__law_fields : Fun K "_law_fields" "_law_fields" s__law_fields f__law_fields fd__law_fields
  b__law_fields : Binds K fd__law_fields ["_law_lot"] []
  g__law_fields : mg "_law_fields" = some (.ref f__law_fields)
  f__law_sorts : Addr
  fd__law_sorts : FuncData
  F__law_sorts : Fun K "_law_sorts" "_law_sorts" s__law_sorts f__law_sorts fd__law_sorts
  b__law_sorts : Binds K fd__law_sorts ["_law_e"] []
  g__law_sorts : mg "_law_sorts" = some (.ref f__law_sorts)
  f__law_above : Addr
  fd__law_above : FuncData
  F__law_above : Fun K "_law_above" "_law_above" s__law_above f__law_above fd__law_above
  b__law_above : Binds K fd__law_above ["_law_e"] []
  g__law_above : mg "_law_above" = some (.ref f__law_above)
  m_IndexError : mg "IndexError" = none
  m_KeyError : mg "KeyError" = none
  m_LookupError : mg "LookupError" = none
  m_ValueError : mg "ValueError" = none
  m_enumerate : mg "enumerate" = none
  m_int : mg "int" = none
  m_isinstance : mg "isinstance" = none
  m_len : mg "len" = none
  m_range : mg "range" = none
  m_repr : mg "repr" = none
  a_NoEngine : Addr
  g_NoEngine : mg "NoEngine" = some (.ref a_NoEngine)
  k_NoEngine : PySem.W.keepIn K (.ref a_NoEngine) = true
  ei_NoEngine : ExI K a_NoEngine
  x_NoEngine : ExK K a_NoEngine
  xf_NoEngine : XfC K a_NoEngine
  i_NoEngine : Addr
  ic_NoEngine : PySem.W.findIn K (.ref a_NoEngine) "__init__" = some (some (.ref i_NoEngine))
  it_NoEngine : PySem.W.typeIn K (.ref i_NoEngine) = some (.type "function")
  id_NoEngine : FuncData
  F_NoEngine : Fun K "__init__" "NoEngine.__init__" s_NoEngine i_NoEngine id_NoEngine
  b_NoEngine : Binds K id_NoEngine ["self", "word"] []
  kb_NoEngine : KBn K id_NoEngine ["self", "word"] 1 ["word"] (fun us ws => us ++ ws) (fun vs zs => vs ++ zs)
  n_NoEngine_word : PySem.W.findIn K (.ref a_NoEngine) "word" = some none
  a_NoYard : Addr
  g_NoYard : mg "NoYard" = some (.ref a_NoYard)
  k_NoYard : PySem.W.keepIn K (.ref a_NoYard) = true
  ei_NoYard : ExI K a_NoYard
  x_NoYard : ExK K a_NoYard
  xf_NoYard : XfC K a_NoYard
  i_NoYard : Addr
  ic_NoYard : PySem.W.findIn K (.ref a_NoYard) "__init__" = some (some (.ref i_NoYard))
  it_NoYard : PySem.W.typeIn K (.ref i_NoYard) = some (.type "function")
  id_NoYard : FuncData
  F_NoYard : Fun K "__init__" "NoYard.__init__" s_NoYard i_NoYard id_NoYard
  b_NoYard : Binds K id_NoYard ["self", "word", "number"] []
  kb_NoYard : KBn K id_NoYard ["self", "word", "number"] 1 ["number", "word"] (fun us ws => us ++ swap2 ws) (fun vs zs => vs ++ swap2 zs)
  n_NoYard_word : PySem.W.findIn K (.ref a_NoYard) "word" = some none
  n_NoYard_number : PySem.W.findIn K (.ref a_NoYard) "number" = some none
  a_NoText : Addr
  g_NoText : mg "NoText" = some (.ref a_NoText)
  k_NoText : PySem.W.keepIn K (.ref a_NoText) = true
  ei_NoText : ExI K a_NoText
  x_NoText : ExK K a_NoText
  xf_NoText : XfC K a_NoText
  i_NoText : Addr
  ic_NoText : PySem.W.findIn K (.ref a_NoText) "__init__" = some (some (.ref i_NoText))
  it_NoText : PySem.W.typeIn K (.ref i_NoText) = some (.type "function")
  id_NoText : FuncData
  F_NoText : Fun K "__init__" "NoText.__init__" s_NoText i_NoText id_NoText
  b_NoText : Binds K id_NoText ["self", "at"] []
  kb_NoText : KBn K id_NoText ["self", "at"] 1 ["at"] (fun us ws => us ++ ws) (fun vs zs => vs ++ zs)
  n_NoText_at : PySem.W.findIn K (.ref a_NoText) "at" = some none
  a_OwnWay : Addr
  g_OwnWay : mg "OwnWay" = some (.ref a_OwnWay)
  k_OwnWay : PySem.W.keepIn K (.ref a_OwnWay) = true
  ei_OwnWay : ExI K a_OwnWay
  x_OwnWay : ExK K a_OwnWay
  xf_OwnWay : XfC K a_OwnWay
  i_OwnWay : Addr
  ic_OwnWay : PySem.W.findIn K (.ref a_OwnWay) "__init__" = some (some (.ref i_OwnWay))
  it_OwnWay : PySem.W.typeIn K (.ref i_OwnWay) = some (.type "function")
  id_OwnWay : FuncData
  F_OwnWay : Fun K "__init__" "OwnWay.__init__" s_OwnWay i_OwnWay id_OwnWay
  b_OwnWay : Binds K id_OwnWay ["self", "number"] []
  kb_OwnWay : KBn K id_OwnWay ["self", "number"] 1 ["number"] (fun us ws => us ++ ws) (fun vs zs => vs ++ zs)
  n_OwnWay_number : PySem.W.findIn K (.ref a_OwnWay) "number" = some none
  a_TooMany : Addr
  g_TooMany : mg "TooMany" = some (.ref a_TooMany)
  k_TooMany : PySem.W.keepIn K (.ref a_TooMany) = true
  ei_TooMany : ExI K a_TooMany
  x_TooMany : ExK K a_TooMany
  xf_TooMany : XfC K a_TooMany
  i_TooMany : Addr
  ic_TooMany : PySem.W.findIn K (.ref a_TooMany) "__init__" = some (some (.ref i_TooMany))
  it_TooMany : PySem.W.typeIn K (.ref i_TooMany) = some (.type "function")
  id_TooMany : FuncData
  F_TooMany : Fun K "__init__" "TooMany.__init__" s_TooMany i_TooMany id_TooMany
  b_TooMany : Binds K id_TooMany ["self", "most"] []
  kb_TooMany : KBn K id_TooMany ["self", "most"] 1 ["most"] (fun us ws => us ++ ws) (fun vs zs => vs ++ zs)
  n_TooMany_most : PySem.W.findIn K (.ref a_TooMany) "most" = some none
  a_TooLong : Addr
  g_TooLong : mg "TooLong" = some (.ref a_TooLong)
  k_TooLong : PySem.W.keepIn K (.ref a_TooLong) = true
  ei_TooLong : ExI K a_TooLong
  x_TooLong : ExK K a_TooLong
  xf_TooLong : XfC K a_TooLong
  i_TooLong : Addr
  ic_TooLong : PySem.W.findIn K (.ref a_TooLong) "__init__" = some (some (.ref i_TooLong))
  it_TooLong : PySem.W.typeIn K (.ref i_TooLong) = some (.type "function")
  id_TooLong : FuncData
  F_TooLong : Fun K "__init__" "TooLong.__init__" s_TooLong i_TooLong id_TooLong
  b_TooLong : Binds K id_TooLong ["self", "most"] []
  kb_TooLong : KBn K id_TooLong ["self", "most"] 1 ["most"] (fun us ws => us ++ ws) (fun vs zs => vs ++ zs)
  n_TooLong_most : PySem.W.findIn K (.ref a_TooLong) "most" = some none
  a_Full : Addr
  g_Full : mg "Full" = some (.ref a_Full)
  k_Full : PySem.W.keepIn K (.ref a_Full) = true
  ei_Full : ExI K a_Full
  x_Full : ExK K a_Full
  xf_Full : XfC K a_Full
  i_Full : Addr
  ic_Full : PySem.W.findIn K (.ref a_Full) "__init__" = some (some (.ref i_Full))
  it_Full : PySem.W.typeIn K (.ref i_Full) = some (.type "function")
  id_Full : FuncData
  F_Full : Fun K "__init__" "Full.__init__" s_Full i_Full id_Full
  b_Full : Binds K id_Full ["self", "most"] []
  kb_Full : KBn K id_Full ["self", "most"] 1 ["most"] (fun us ws => us ++ ws) (fun vs zs => vs ++ zs)
  n_Full_most : PySem.W.findIn K (.ref a_Full) "most" = some none
  a_NoColour : Addr
  g_NoColour : mg "NoColour" = some (.ref a_NoColour)
  k_NoColour : PySem.W.keepIn K (.ref a_NoColour) = true
  ei_NoColour : ExI K a_NoColour
  x_NoColour : ExK K a_NoColour
  xf_NoColour : XfC K a_NoColour
  i_NoColour : Addr
  ic_NoColour : PySem.W.findIn K (.ref a_NoColour) "__init__" = some (some (.ref i_NoColour))
  it_NoColour : PySem.W.typeIn K (.ref i_NoColour) = some (.type "function")
  id_NoColour : FuncData
  F_NoColour : Fun K "__init__" "NoColour.__init__" s_NoColour i_NoColour id_NoColour
  b_NoColour : Binds K id_NoColour ["self", "colour"] []
  kb_NoColour : KBn K id_NoColour ["self", "colour"] 1 ["colour"] (fun us ws => us ++ ws) (fun vs zs => vs ++ zs)
  n_NoColour_colour : PySem.W.findIn K (.ref a_NoColour) "colour" = some none
  a_Broken : Addr
  g_Broken : mg "Broken" = some (.ref a_Broken)
  k_Broken : PySem.W.keepIn K (.ref a_Broken) = true
  ei_Broken : ExI K a_Broken
  x_Broken : ExK K a_Broken
  xf_Broken : XfC K a_Broken
  i_Broken : Addr
  ic_Broken : PySem.W.findIn K (.ref a_Broken) "__init__" = some (some (.ref i_Broken))
  it_Broken : PySem.W.typeIn K (.ref i_Broken) = some (.type "function")
  id_Broken : FuncData
  F_Broken : Fun K "__init__" "Broken.__init__" s_Broken i_Broken id_Broken
  b_Broken : Binds K id_Broken ["self", "at"] []
  kb_Broken : KBn K id_Broken ["self", "at"] 1 ["at"] (fun us ws => us ++ ws) (fun vs zs => vs ++ zs)
  n_Broken_at : PySem.W.findIn K (.ref a_Broken) "at" = some none
  a_NoRow : Addr
  g_NoRow : mg "NoRow" = some (.ref a_NoRow)
  k_NoRow : PySem.W.keepIn K (.ref a_NoRow) = true
  ei_NoRow : ExI K a_NoRow
  q_NoRow : PySem.W.excIn K a_NoRow [.type "ValueError", .type "Exception", .type "BaseException", .type "object"] "ValueError.__new__" = true
  a_NoNumber : Addr
  g_NoNumber : mg "NoNumber" = some (.ref a_NoNumber)
  k_NoNumber : PySem.W.keepIn K (.ref a_NoNumber) = true
  ei_NoNumber : ExI K a_NoNumber
  x_NoNumber : ExK K a_NoNumber
  xf_NoNumber : XfC K a_NoNumber
  i_NoNumber : Addr
  ic_NoNumber : PySem.W.findIn K (.ref a_NoNumber) "__init__" = some (some (.ref i_NoNumber))
  it_NoNumber : PySem.W.typeIn K (.ref i_NoNumber) = some (.type "function")
  id_NoNumber : FuncData
  F_NoNumber : Fun K "__init__" "NoNumber.__init__" s_NoNumber i_NoNumber id_NoNumber
  b_NoNumber : Binds K id_NoNumber ["self", "number"] []
  kb_NoNumber : KBn K id_NoNumber ["self", "number"] 1 ["number"] (fun us ws => us ++ ws) (fun vs zs => vs ++ zs)
  n_NoNumber_number : PySem.W.findIn K (.ref a_NoNumber) "number" = some none
  a_NoRail : Addr
  g_NoRail : mg "NoRail" = some (.ref a_NoRail)
  k_NoRail : PySem.W.keepIn K (.ref a_NoRail) = true
  ei_NoRail : ExI K a_NoRail
  x_NoRail : ExK K a_NoRail
  xf_NoRail : XfC K a_NoRail
  i_NoRail : Addr
  ic_NoRail : PySem.W.findIn K (.ref a_NoRail) "__init__" = some (some (.ref i_NoRail))
  it_NoRail : PySem.W.typeIn K (.ref i_NoRail) = some (.type "function")
  id_NoRail : FuncData
  F_NoRail : Fun K "__init__" "NoRail.__init__" s_NoRail i_NoRail id_NoRail
  b_NoRail : Binds K id_NoRail ["self", "number", "place"] []
  kb_NoRail : KBn K id_NoRail ["self", "number", "place"] 1 ["place", "number"] (fun us ws => us ++ swap2 ws) (fun vs zs => vs ++ swap2 zs)
  n_NoRail_number : PySem.W.findIn K (.ref a_NoRail) "number" = some none
  n_NoRail_place : PySem.W.findIn K (.ref a_NoRail) "place" = some none
  a_NoStood : Addr
  g_NoStood : mg "NoStood" = some (.ref a_NoStood)
  k_NoStood : PySem.W.keepIn K (.ref a_NoStood) = true
  ei_NoStood : ExI K a_NoStood
  x_NoStood : ExK K a_NoStood
  xf_NoStood : XfC K a_NoStood
  i_NoStood : Addr
  ic_NoStood : PySem.W.findIn K (.ref a_NoStood) "__init__" = some (some (.ref i_NoStood))
  it_NoStood : PySem.W.typeIn K (.ref i_NoStood) = some (.type "function")
  id_NoStood : FuncData
  F_NoStood : Fun K "__init__" "NoStood.__init__" s_NoStood i_NoStood id_NoStood
  b_NoStood : Binds K id_NoStood ["self", "k"] []
  kb_NoStood : KBn K id_NoStood ["self", "k"] 1 ["k"] (fun us ws => us ++ ws) (fun vs zs => vs ++ zs)
  n_NoStood_k : PySem.W.findIn K (.ref a_NoStood) "k" = some none
  a_RailError : Addr
  g_RailError : mg "RailError" = some (.ref a_RailError)
  asked : List Value
  asked_is : asked = [.ref a_NoEngine, .ref a_NoYard, .ref a_NoText, .ref a_OwnWay, .ref a_TooMany, .ref a_TooLong, .ref a_Full, .ref a_NoColour, .ref a_Broken, .ref a_NoRow, .ref a_NoNumber, .ref a_NoRail, .ref a_NoStood, .ref a_RailError, .type "ValueError", .type "IndexError", .type "LookupError", .type "KeyError"]
  kit_NoEngine : asked.map (PySem.W.kitOne K (.ref a_NoEngine)) = [some true, some false, some false, some false, some false, some false, some false, some false, some false, some false, some false, some false, some false, some true, some true, some false, some false, some false]
  kit_NoYard : asked.map (PySem.W.kitOne K (.ref a_NoYard)) = [some false, some true, some false, some false, some false, some false, some false, some false, some false, some false, some false, some false, some false, some true, some true, some false, some false, some false]
  kit_NoText : asked.map (PySem.W.kitOne K (.ref a_NoText)) = [some false, some false, some true, some false, some false, some false, some false, some false, some false, some false, some false, some false, some false, some true, some true, some false, some false, some false]
  kit_OwnWay : asked.map (PySem.W.kitOne K (.ref a_OwnWay)) = [some false, some false, some false, some true, some false, some false, some false, some false, some false, some false, some false, some false, some false, some true, some true, some false, some false, some false]
  kit_TooMany : asked.map (PySem.W.kitOne K (.ref a_TooMany)) = [some false, some false, some false, some false, some true, some false, some false, some false, some false, some false, some false, some false, some false, some true, some true, some false, some false, some false]
  kit_TooLong : asked.map (PySem.W.kitOne K (.ref a_TooLong)) = [some false, some false, some false, some false, some false, some true, some false, some false, some false, some false, some false, some false, some false, some true, some true, some false, some false, some false]
  kit_Full : asked.map (PySem.W.kitOne K (.ref a_Full)) = [some false, some false, some false, some false, some false, some false, some true, some false, some false, some false, some false, some false, some false, some true, some true, some false, some false, some false]
  kit_NoColour : asked.map (PySem.W.kitOne K (.ref a_NoColour)) = [some false, some false, some false, some false, some false, some false, some false, some true, some false, some false, some false, some false, some false, some true, some true, some false, some false, some false]
  kit_Broken : asked.map (PySem.W.kitOne K (.ref a_Broken)) = [some false, some false, some false, some false, some false, some false, some false, some false, some true, some false, some false, some false, some false, some true, some true, some false, some false, some false]
  kit_NoRow : asked.map (PySem.W.kitOne K (.ref a_NoRow)) = [some false, some false, some false, some false, some false, some false, some false, some false, some false, some true, some false, some false, some false, some true, some true, some false, some false, some false]
  kit_NoNumber : asked.map (PySem.W.kitOne K (.ref a_NoNumber)) = [some false, some false, some false, some false, some false, some false, some false, some false, some false, some false, some true, some false, some false, some false, some false, some true, some true, some false]
  kit_NoRail : asked.map (PySem.W.kitOne K (.ref a_NoRail)) = [some false, some false, some false, some false, some false, some false, some false, some false, some false, some false, some false, some true, some false, some false, some false, some true, some true, some false]
  kit_NoStood : asked.map (PySem.W.kitOne K (.ref a_NoStood)) = [some false, some false, some false, some false, some false, some false, some false, some false, some false, some false, some false, some false, some true, some false, some false, some false, some true, some false]
/-! ### refusals made -/
def spPut1 (C : Addr) (f : Str) : Sp := fun vs H Q _ => ∃ (a : Addr) (v : V), vs = [.ref a, v] ∧ H a = some (exo a C none) ∧ ∀ dx, H dx = none → dx ≠ a → Q .non (upd (upd H dx (exd dx [(f, v)])) a (exo a C (some dx)))
def spPut2 (C : Addr) (f1 f2 : Str) : Sp := fun vs H Q _ => ∃ (a : Addr) (v1 v2 : V), vs = [.ref a, v1, v2] ∧ H a = some (exo a C none) ∧ ∀ dx, H dx = none → dx ≠ a → Q .non (upd (upd (upd H dx (exd dx [(f1, v1)])) a (exo a C (some dx))) dx (exd dx [(f2, v2), (f1, v1)]))
/-- at a: one of the class at c.1, with these fields (none: without a dict) -/
def LotAt (H : Hp) (a : Addr) (c : Addr × Option (List (Str × V))) : Prop := match c.2 with
  | none => H a = some (exo a c.1 none)
  | some fs => ∃ dd, H a = some (exo a c.1 (some dd)) ∧ H dd = some (exd dd fs)
theorem LotAt.up {H H' : Hp} {a : Addr} {c : Addr × Option (List (Str × V))} (h : LotAt H a c) (s : Same H H') : LotAt H' a c := by
  obtain ⟨C, o⟩ := c
  cases o with
  | none => exact s _ _ h
  | some fs =>
    obtain ⟨dd, h1, h2⟩ := h
    exact ⟨dd, s _ _ h1, s _ _ h2⟩
inductive LotsAt (H : Hp) : List Addr → List (Addr × Option (List (Str × V))) → Prop
  | nil : LotsAt H [] []
  | cons {a : Addr} {as : List Addr} {c : Addr × Option (List (Str × V))} {cs : List (Addr × Option (List (Str × V)))} : LotAt H a c → LotsAt H as cs → LotsAt H (a :: as) (c :: cs)
theorem LotsAt.up {H H' : Hp} {as : List Addr} {cs : List (Addr × Option (List (Str × V)))} (h : LotsAt H as cs) (s : Same H H') : LotsAt H' as cs := by
  induction h with
  | nil => exact .nil
  | cons h1 _ ih => exact .cons (h1.up s) ih
theorem LotsAt.snoc {H : Hp} {as : List Addr} {cs : List (Addr × Option (List (Str × V)))} {a : Addr} {c : Addr × Option (List (Str × V))} (h : LotsAt H as cs) (h2 : LotAt H a c) : LotsAt H (as ++ [a]) (cs ++ [c]) := by
  induction h with
  | nil => exact .cons h2 .nil
  | cons h1 _ ih => exact .cons h1 ih
theorem LotsAt.length {H : Hp} {as : List Addr} {cs : List (Addr × Option (List (Str × V)))} (h : LotsAt H as cs) : as.length = cs.length := by
  induction h with
  | nil => rfl
  | cons _ _ ih => rw [List.length_cons, List.length_cons, ih]
theorem LotsAt.get {H : Hp} {as : List Addr} {cs : List (Addr × Option (List (Str × V)))} (h : LotsAt H as cs) : ∀ {i : Nat} {a : Addr}, as[i]? = some a → ∃ c, cs[i]? = some c ∧ LotAt H a c := by
  induction h with
  | nil => intro i a e; cases e
  | cons h1 _ ih =>
    intro i a e
    cases i with
    | zero =>
      cases e
      exact ⟨_, rfl, h1⟩
    | succ i => exact ih e
section
variable {σ : L2.St} {H : Hp} {C : Addr} {f f1 f2 : Str} {v v1 v2 : V} {ta : TA} {Q : VK}
theorem put1_at {a dx : Addr} (na : H a = none) (n1 : (upd H a (exo a C none)) dx = none) (n2 : dx ≠ a) : Same H (upd (upd (upd H a (exo a C none)) dx (exd dx [(f, v)])) a (exo a C (some dx))) ∧ LotAt (upd (upd (upd H a (exo a C none)) dx (exd dx [(f, v)])) a (exo a C (some dx))) a (C, some [(f, v)]) := by
  have n1' : H dx = none := by
    rw [upd_ne n2] at n1
    exact n1
  refine ⟨fun b o h => ?_, dx, upd_same, by rw [upd_ne n2, upd_same]⟩
  have ba := ne_of_none h na
  rw [upd_ne ba, upd_ne (ne_of_none h n1'), upd_ne ba]
  exact h
theorem r_new1 (ht : ∀ R : List V → Hp → Prop, R [v] H → ta σ H R) (q : ∀ a H', Same H H' → LotAt H' a (C, some [(f, v)]) → Q (.ref a) H') : tNew C (spPut1 C f) ta σ H Q :=
  ht _ ⟨by show 1 ≤ 1000; decide, fun a na => ⟨a, v, rfl, upd_same, fun dx n1 n2 => ⟨rfl, q a _ (put1_at na n1 n2).1 (put1_at na n1 n2).2⟩⟩⟩
theorem r_newK1 (ht : ∀ R : List V → Hp → Prop, R [v] H → ta σ H R) (q : ∀ a H', Same H H' → LotAt H' a (C, some [(f, v)]) → Q (.ref a) H') : tNewK C 1 (spPut1 C f) (fun vs zs => vs ++ zs) ta σ H Q :=
  ht _ ⟨rfl, fun a na => ⟨a, v, rfl, upd_same, fun dx n1 n2 => ⟨rfl, q a _ (put1_at na n1 n2).1 (put1_at na n1 n2).2⟩⟩⟩
theorem put2_at {a dx : Addr} (na : H a = none) (n1 : (upd H a (exo a C none)) dx = none) (n2 : dx ≠ a) : Same H (upd (upd (upd (upd H a (exo a C none)) dx (exd dx [(f1, v1)])) a (exo a C (some dx))) dx (exd dx [(f2, v2), (f1, v1)])) ∧
    LotAt (upd (upd (upd (upd H a (exo a C none)) dx (exd dx [(f1, v1)])) a (exo a C (some dx))) dx (exd dx [(f2, v2), (f1, v1)])) a (C, some [(f2, v2), (f1, v1)]) := by
  have n1' : H dx = none := by
    rw [upd_ne n2] at n1
    exact n1
  refine ⟨fun b o h => ?_, dx, by rw [upd_ne (fun z => n2 z.symm), upd_same], upd_same⟩
  have ba := ne_of_none h na
  have bd := ne_of_none h n1'
  rw [upd_ne bd, upd_ne ba, upd_ne bd, upd_ne ba]
  exact h
theorem r_new2 (ht : ∀ R : List V → Hp → Prop, R [v1, v2] H → ta σ H R) (q : ∀ a H', Same H H' → LotAt H' a (C, some [(f2, v2), (f1, v1)]) → Q (.ref a) H') : tNew C (spPut2 C f1 f2) ta σ H Q :=
  ht _ ⟨by show 2 ≤ 1000; decide, fun a na => ⟨a, v1, v2, rfl, upd_same, fun dx n1 n2 => ⟨rfl, q a _ (put2_at na n1 n2).1 (put2_at na n1 n2).2⟩⟩⟩
theorem r_newK2 (ht : ∀ R : List V → Hp → Prop, R [v2, v1] H → ta σ H R) (q : ∀ a H', Same H H' → LotAt H' a (C, some [(f2, v2), (f1, v1)]) → Q (.ref a) H') : tNewK C 2 (spPut2 C f1 f2) (fun vs zs => vs ++ swap2 zs) ta σ H Q :=
  ht _ ⟨rfl, fun a na => ⟨a, v1, v2, rfl, upd_same, fun dx n1 n2 => ⟨rfl, q a _ (put2_at na n1 n2).1 (put2_at na n1 n2).2⟩⟩⟩
theorem r_new0 (q : ∀ a H', Same H H' → LotAt H' a (C, none) → Q (.ref a) H') : tNew0 C σ H Q := fun a na => q a _ (same_new na) upd_same
end
theorem ok_NoEngine {P : Program} {w : World} {K : PySem.W.Frag} {mg : Str → Option Value} {base : Heap} (T : Txt K w mg) : FnOk P w K mg base CX0 1 T.i_NoEngine T.id_NoEngine ["self", "word"] (spPut1 T.a_NoEngine "word") := by
  refine T.F_NoEngine.ok sc_NoEngine (fun vs H Q E h => ?_) (fun cdv A outer s H vs Q E hr h => ?_)
  · obtain ⟨a, v, rfl, _⟩ := h
    rfl
  · obtain ⟨a, v, rfl, ha, q⟩ := h
    refine ⟨_, (pss_one (ps_put (pv 0) (pv 1))), ?_⟩
    exact ⟨v, rfl, .ref a, rfl, a, T.a_NoEngine, rfl, T.x_NoEngine, T.n_NoEngine_word, .inl ⟨ha, fun dx n1 n2 => q dx n1 n2⟩⟩
theorem ok_NoYard {P : Program} {w : World} {K : PySem.W.Frag} {mg : Str → Option Value} {base : Heap} (T : Txt K w mg) : FnOk P w K mg base CX0 1 T.i_NoYard T.id_NoYard ["self", "word", "number"] (spPut2 T.a_NoYard "word" "number") := by
  refine T.F_NoYard.ok sc_NoYard (fun vs H Q E h => ?_) (fun cdv A outer s H vs Q E hr h => ?_)
  · obtain ⟨a, v1, v2, rfl, _⟩ := h
    rfl
  · obtain ⟨a, v1, v2, rfl, ha, q⟩ := h
    refine ⟨_, (pss_cons (ps_put (pv 0) (pv 1)) (pss_one (ps_put (pv 0) (pv 2)))), ?_⟩
    refine ⟨v1, rfl, .ref a, rfl, a, T.a_NoYard, rfl, T.x_NoYard, T.n_NoYard_word, .inl ⟨ha, fun dx n1 n2 => ?_⟩⟩
    refine ⟨v2, rfl, .ref a, rfl, a, T.a_NoYard, rfl, T.x_NoYard, T.n_NoYard_number, .inr ⟨dx, _, upd_same, by rw [upd_ne n2, upd_same], by show 1 ≤ 900; decide, q dx n1 n2⟩⟩
theorem ok_NoText {P : Program} {w : World} {K : PySem.W.Frag} {mg : Str → Option Value} {base : Heap} (T : Txt K w mg) : FnOk P w K mg base CX0 1 T.i_NoText T.id_NoText ["self", "at"] (spPut1 T.a_NoText "at") := by
  refine T.F_NoText.ok sc_NoText (fun vs H Q E h => ?_) (fun cdv A outer s H vs Q E hr h => ?_)
  · obtain ⟨a, v, rfl, _⟩ := h
    rfl
  · obtain ⟨a, v, rfl, ha, q⟩ := h
    refine ⟨_, (pss_one (ps_put (pv 0) (pv 1))), ?_⟩
    exact ⟨v, rfl, .ref a, rfl, a, T.a_NoText, rfl, T.x_NoText, T.n_NoText_at, .inl ⟨ha, fun dx n1 n2 => q dx n1 n2⟩⟩
theorem ok_OwnWay {P : Program} {w : World} {K : PySem.W.Frag} {mg : Str → Option Value} {base : Heap} (T : Txt K w mg) : FnOk P w K mg base CX0 1 T.i_OwnWay T.id_OwnWay ["self", "number"] (spPut1 T.a_OwnWay "number") := by
  refine T.F_OwnWay.ok sc_OwnWay (fun vs H Q E h => ?_) (fun cdv A outer s H vs Q E hr h => ?_)
  · obtain ⟨a, v, rfl, _⟩ := h
    rfl
  · obtain ⟨a, v, rfl, ha, q⟩ := h
    refine ⟨_, (pss_one (ps_put (pv 0) (pv 1))), ?_⟩
    exact ⟨v, rfl, .ref a, rfl, a, T.a_OwnWay, rfl, T.x_OwnWay, T.n_OwnWay_number, .inl ⟨ha, fun dx n1 n2 => q dx n1 n2⟩⟩
theorem ok_TooMany {P : Program} {w : World} {K : PySem.W.Frag} {mg : Str → Option Value} {base : Heap} (T : Txt K w mg) : FnOk P w K mg base CX0 1 T.i_TooMany T.id_TooMany ["self", "most"] (spPut1 T.a_TooMany "most") := by
  refine T.F_TooMany.ok sc_TooMany (fun vs H Q E h => ?_) (fun cdv A outer s H vs Q E hr h => ?_)
  · obtain ⟨a, v, rfl, _⟩ := h
    rfl
  · obtain ⟨a, v, rfl, ha, q⟩ := h
    refine ⟨_, (pss_one (ps_put (pv 0) (pv 1))), ?_⟩
    exact ⟨v, rfl, .ref a, rfl, a, T.a_TooMany, rfl, T.x_TooMany, T.n_TooMany_most, .inl ⟨ha, fun dx n1 n2 => q dx n1 n2⟩⟩
theorem ok_TooLong {P : Program} {w : World} {K : PySem.W.Frag} {mg : Str → Option Value} {base : Heap} (T : Txt K w mg) : FnOk P w K mg base CX0 1 T.i_TooLong T.id_TooLong ["self", "most"] (spPut1 T.a_TooLong "most") := by
  refine T.F_TooLong.ok sc_TooLong (fun vs H Q E h => ?_) (fun cdv A outer s H vs Q E hr h => ?_)
  · obtain ⟨a, v, rfl, _⟩ := h
    rfl
  · obtain ⟨a, v, rfl, ha, q⟩ := h
    refine ⟨_, (pss_one (ps_put (pv 0) (pv 1))), ?_⟩
    exact ⟨v, rfl, .ref a, rfl, a, T.a_TooLong, rfl, T.x_TooLong, T.n_TooLong_most, .inl ⟨ha, fun dx n1 n2 => q dx n1 n2⟩⟩
theorem ok_Full {P : Program} {w : World} {K : PySem.W.Frag} {mg : Str → Option Value} {base : Heap} (T : Txt K w mg) : FnOk P w K mg base CX0 1 T.i_Full T.id_Full ["self", "most"] (spPut1 T.a_Full "most") := by
  refine T.F_Full.ok sc_Full (fun vs H Q E h => ?_) (fun cdv A outer s H vs Q E hr h => ?_)
  · obtain ⟨a, v, rfl, _⟩ := h
    rfl
  · obtain ⟨a, v, rfl, ha, q⟩ := h
    refine ⟨_, (pss_one (ps_put (pv 0) (pv 1))), ?_⟩
    exact ⟨v, rfl, .ref a, rfl, a, T.a_Full, rfl, T.x_Full, T.n_Full_most, .inl ⟨ha, fun dx n1 n2 => q dx n1 n2⟩⟩
theorem ok_NoColour {P : Program} {w : World} {K : PySem.W.Frag} {mg : Str → Option Value} {base : Heap} (T : Txt K w mg) : FnOk P w K mg base CX0 1 T.i_NoColour T.id_NoColour ["self", "colour"] (spPut1 T.a_NoColour "colour") := by
  refine T.F_NoColour.ok sc_NoColour (fun vs H Q E h => ?_) (fun cdv A outer s H vs Q E hr h => ?_)
  · obtain ⟨a, v, rfl, _⟩ := h
    rfl
  · obtain ⟨a, v, rfl, ha, q⟩ := h
    refine ⟨_, (pss_one (ps_put (pv 0) (pv 1))), ?_⟩
    exact ⟨v, rfl, .ref a, rfl, a, T.a_NoColour, rfl, T.x_NoColour, T.n_NoColour_colour, .inl ⟨ha, fun dx n1 n2 => q dx n1 n2⟩⟩
theorem ok_Broken {P : Program} {w : World} {K : PySem.W.Frag} {mg : Str → Option Value} {base : Heap} (T : Txt K w mg) : FnOk P w K mg base CX0 1 T.i_Broken T.id_Broken ["self", "at"] (spPut1 T.a_Broken "at") := by
  refine T.F_Broken.ok sc_Broken (fun vs H Q E h => ?_) (fun cdv A outer s H vs Q E hr h => ?_)
  · obtain ⟨a, v, rfl, _⟩ := h
    rfl
  · obtain ⟨a, v, rfl, ha, q⟩ := h
    refine ⟨_, (pss_one (ps_put (pv 0) (pv 1))), ?_⟩
    exact ⟨v, rfl, .ref a, rfl, a, T.a_Broken, rfl, T.x_Broken, T.n_Broken_at, .inl ⟨ha, fun dx n1 n2 => q dx n1 n2⟩⟩
theorem ok_NoNumber {P : Program} {w : World} {K : PySem.W.Frag} {mg : Str → Option Value} {base : Heap} (T : Txt K w mg) : FnOk P w K mg base CX0 1 T.i_NoNumber T.id_NoNumber ["self", "number"] (spPut1 T.a_NoNumber "number") := by
  refine T.F_NoNumber.ok sc_NoNumber (fun vs H Q E h => ?_) (fun cdv A outer s H vs Q E hr h => ?_)
  · obtain ⟨a, v, rfl, _⟩ := h
    rfl
  · obtain ⟨a, v, rfl, ha, q⟩ := h
    refine ⟨_, (pss_one (ps_put (pv 0) (pv 1))), ?_⟩
    exact ⟨v, rfl, .ref a, rfl, a, T.a_NoNumber, rfl, T.x_NoNumber, T.n_NoNumber_number, .inl ⟨ha, fun dx n1 n2 => q dx n1 n2⟩⟩
theorem ok_NoRail {P : Program} {w : World} {K : PySem.W.Frag} {mg : Str → Option Value} {base : Heap} (T : Txt K w mg) : FnOk P w K mg base CX0 1 T.i_NoRail T.id_NoRail ["self", "number", "place"] (spPut2 T.a_NoRail "number" "place") := by
  refine T.F_NoRail.ok sc_NoRail (fun vs H Q E h => ?_) (fun cdv A outer s H vs Q E hr h => ?_)
  · obtain ⟨a, v1, v2, rfl, _⟩ := h
    rfl
  · obtain ⟨a, v1, v2, rfl, ha, q⟩ := h
    refine ⟨_, (pss_cons (ps_put (pv 0) (pv 1)) (pss_one (ps_put (pv 0) (pv 2)))), ?_⟩
    refine ⟨v1, rfl, .ref a, rfl, a, T.a_NoRail, rfl, T.x_NoRail, T.n_NoRail_number, .inl ⟨ha, fun dx n1 n2 => ?_⟩⟩
    refine ⟨v2, rfl, .ref a, rfl, a, T.a_NoRail, rfl, T.x_NoRail, T.n_NoRail_place, .inr ⟨dx, _, upd_same, by rw [upd_ne n2, upd_same], by show 1 ≤ 900; decide, q dx n1 n2⟩⟩
theorem ok_NoStood {P : Program} {w : World} {K : PySem.W.Frag} {mg : Str → Option Value} {base : Heap} (T : Txt K w mg) : FnOk P w K mg base CX0 1 T.i_NoStood T.id_NoStood ["self", "k"] (spPut1 T.a_NoStood "k") := by
  refine T.F_NoStood.ok sc_NoStood (fun vs H Q E h => ?_) (fun cdv A outer s H vs Q E hr h => ?_)
  · obtain ⟨a, v, rfl, _⟩ := h
    rfl
  · obtain ⟨a, v, rfl, ha, q⟩ := h
    refine ⟨_, (pss_one (ps_put (pv 0) (pv 1))), ?_⟩
    exact ⟨v, rfl, .ref a, rfl, a, T.a_NoStood, rfl, T.x_NoStood, T.n_NoStood_k, .inl ⟨ha, fun dx n1 n2 => q dx n1 n2⟩⟩
/-! ### the law's draws -/
section
variable {P : Program} {w : World} {K : PySem.W.Frag} {mg : Str → Option Value} {base : Heap}
theorem ok__law_take (T : Txt K w mg) : FnOk P w K mg base CX0 1 T.f__law_take T.fd__law_take ["_law_box_here", "_law_many"] spTake := by
  refine T.F__law_take.ok sc__law_take (fun vs H Q E h => ?_) (fun cdv A outer s H vs Q E hr h => ?_)
  · obtain ⟨b, m, rfl, _⟩ := h
    rfl
  · obtain ⟨b, m, rfl, ⟨i, s, c, hb⟩, hm, hm2, q⟩ := h
    refine ⟨_, (pss_cons (ps_if (pt_cmpR op_gt (pe_ix ix_list (pv 0) pe_int (fun _ _ => rfl)) pe_int (nomark _))
 (pss_cons (ps_set (i := 2) sc__law_take.nd rfl (.inl rfl) (pe_op op_mod (pe_ix ix_list (pv 0) pe_int (fun _ _ => rfl)) (pv 1)))
 (pss_cons (ps_asg (pe_op op_fdivW (pe_ix ix_list (pv 0) pe_int (fun _ _ => rfl)) (pv 1)) (pg_sub (pv 0) pe_int set_list))
 (pss_one (ps_ret (pv 2)))))
 pss_nil)
 (pss_cons (ps_asg (pe_op op_add (pe_ix ix_list (pv 0) pe_int (fun _ _ => rfl)) pe_int) (pg_sub (pv 0) pe_int set_list))
 (pss_cons (ps_set (i := 3) sc__law_take.nd rfl (.inl rfl) (pe_op op_mod (pe_op op_mul (pe_op op_add (pe_ix ix_list (pv 0) pe_int (fun _ _ => rfl)) (pe_op op_mul pe_int (pe_ix ix_list (pv 0) pe_int (fun _ _ => rfl)))) pe_int) pe_int))
 (pss_cons (ps_asg (pe_op op_add (pe_op op_mod (pe_op op_add (pe_op op_mul (pv 3) pe_int) pe_int) pe_int) pe_int) (pg_sub (pv 0) pe_int set_list))
 (pss_one (ps_ret (pe_op op_mod (pe_op op_fdivW (pe_op op_add (pe_op op_mul (pv 3) pe_int) (pe_ix ix_list (pv 0) pe_int (fun _ _ => rfl))) pe_int) (pv 1)))))))), ?_⟩
    refine ⟨.ref b, rfl, b, _, 0, .int i, rfl, rfl, SqL.of hb, rfl, i, 0, rfl, rfl, _, rfl, ite2 (fun _ => ?_) (fun _ => ?_)⟩
    · refine ⟨.ref b, rfl, b, _, 0, .int i, rfl, rfl, SqL.of hb, rfl, .int m, rfl, i, m, rfl, rfl, hm, ?_⟩
      refine ⟨.ref b, rfl, b, _, 0, .int i, rfl, rfl, SqL.of hb, rfl, .int m, rfl, i, m, rfl, rfl, div_ok hm hm2, ?_⟩
      refine ⟨.ref b, rfl, b, _, 0, 0, rfl, rfl, hb, rfl, ?_⟩
      exact ⟨.int (i % m), rfl, q _ _ (mod_in hm).1 (mod_in hm).2 but_set ⟨_, _, _, upd_same⟩⟩
    · refine ⟨.ref b, rfl, b, _, 2, .int c, rfl, rfl, SqL.of hb, rfl, c, 1, rfl, rfl, ?_⟩
      refine ⟨.ref b, rfl, b, _, 2, 2, rfl, rfl, hb, rfl, ?_⟩
      have h1 : (upd H b (.lst [.int i, .int s, .int (c + 1)])) b = some (.lst [.int i, .int s, .int (c + 1)]) := upd_same
      refine ⟨.ref b, rfl, b, _, 1, .int s, rfl, rfl, SqL.of h1, rfl, .ref b, rfl, b, _, 2, .int (c + 1), rfl, rfl, SqL.of h1, rfl, 104729, c + 1, rfl, rfl, .inl ⟨by decide, by decide⟩, _, _, rfl, rfl, _, 69623, rfl, rfl, .inr ⟨by decide, by decide⟩, _, 2147483647, rfl, rfl, by show (0 : Int) < 2147483647; decide, ?_⟩
      refine ⟨_, rfl, _, 48271, rfl, rfl, .inr ⟨by decide, by decide⟩, _, 30103, rfl, rfl, _, 2147483629, rfl, rfl, by show (0 : Int) < 2147483629; decide, _, 1, rfl, rfl, ?_⟩
      refine ⟨.ref b, rfl, b, _, 1, 1, rfl, rfl, h1, rfl, ?_⟩
      refine ⟨_, rfl, _, 2147483647, rfl, rfl, .inr ⟨by decide, by decide⟩, .ref b, rfl, b, _, 1, _, rfl, rfl, SqL.of upd_same, rfl, _, _, rfl, rfl, _, 8191, rfl, rfl, div_ok (by decide) (by decide), .int m, rfl, _, m, rfl, rfl, hm, ?_⟩
      exact q _ _ (mod_in hm).1 (mod_in hm).2 (but_set.trans but_set) ⟨_, _, _, upd_same⟩
theorem ok__law_box (T : Txt K w mg) : FnOk P w K mg base CX0 1 T.f__law_box T.fd__law_box ["_law_script", "_law_turn"] (spBox K) := by
  refine T.F__law_box.ok sc__law_box (fun vs H Q E h => ?_) (fun cdv A outer s H vs Q E hr h => ?_)
  · obtain ⟨a, ns, k, rfl, _⟩ := h
    rfl
  · obtain ⟨a, ns, k, rfl, hS, h0, h6, q⟩ := h
    refine ⟨_, (pss_cons (ps_set (i := 2) sc__law_box.nd rfl (.inl rfl) (pe_op op_add (pe_op op_mul pe_int (pv 1)) pe_int))
 (Evl.pss_cut (ps_if (pt_cmpR op_lt (pv 1) (pe_callB call_len_seq (by rfl) T.m_len (by decide +kernel) (pa_cons (pv 0) pa_nil)) (nomark _))
 (pss_one (ps_set (i := 2) sc__law_box.nd rfl (.inl rfl) (pe_ix ix_list (pv 0) (pv 1) (fun _ _ => rfl))))
 (pss_one (ps_if (pt_cmpR op_gt (pe_callB call_len_seq (by rfl) T.m_len (by decide +kernel) (pa_cons (pv 0) pa_nil)) pe_int (nomark _))
 (pss_one (ps_set (i := 2) sc__law_box.nd rfl (.inl rfl) (pe_op op_add (pv 2) (pe_op op_mul (pe_op op_mod (pe_ix ix_list (pv 0) (pe_op op_mod (pv 1) (pe_callB call_len_seq (by rfl) T.m_len (by decide +kernel) (pa_cons (pv 0) pa_nil))) (fun _ _ => rfl)) pe_int) pe_int))))
 pss_nil)))
 (pss_cons (ps_set (i := 3) sc__law_box.nd rfl (.inl rfl) (pe_op op_add (pe_op op_mod (pe_op op_add (pe_op op_mul (pe_op op_mod (pv 2) pe_int) pe_int) (pe_op op_mul pe_int (pv 1))) pe_int) pe_int))
 (pss_one (ps_ret (pe_lst (pa_cons (pe_ix ix_list (pe_lst (pa_cons pe_int (pa_cons (pv 2) pa_nil))) (pe_callTy call_int1 (by rfl) T.m_int (by decide +kernel) (pa_cons (pe_cmpR op_ge (pv 2) (pe_op op_pow pe_int pe_int) (nomark _)) pa_nil)) (fun _ _ => rfl)) (pa_cons (pv 3) (pa_cons pe_int pa_nil))))))))), ?_⟩
    refine ⟨.int k, rfl, 6263, k, rfl, rfl, .inl ⟨by decide, by decide⟩, _, 31, rfl, rfl, ?_⟩
    refine ⟨fun σ H' => ∃ c : Int, σ = [some (.ref a), some (.int k), some (.int c), none] ∧ H' = H, ?_, ?_⟩
    · refine ⟨.int k, rfl, .ref a, rfl, a, _, rfl, .inl hS, k, _, rfl, rfl, _, rfl, ite2 (fun e => ?_) (fun e => ?_)⟩
      · have e1 := of_decide_eq_true e
        rw [List.length_map] at e1
        obtain ⟨z, hz⟩ := atI_ints h0 e1
        exact ⟨.ref a, rfl, .int k, rfl, a, _, k, .int z, rfl, rfl, hS, hz, z, rfl, rfl⟩
      · refine ⟨.ref a, rfl, a, _, rfl, .inl hS, _, 0, rfl, rfl, _, rfl, ite2 (fun e => ?_) (fun e => ?_)⟩
        · have e1 := of_decide_eq_true e
          have e2 : (0 : Int) < ((ns.map V.int).length : Int) := e1
          have m2 := mod_in (a := k) e2
          obtain ⟨z, hz⟩ := atI_ints (ns := ns) m2.1 (by have := m2.2; rw [List.length_map] at this; rw [List.length_map]; exact this)
          refine ⟨.int (6263 * k + 31), rfl, .ref a, rfl, .int k, rfl, .ref a, rfl, a, _, rfl, .inl hS, k, _, rfl, rfl, e1, a, _, _, .int z, rfl, rfl, hS, hz, z, 2147483629, rfl, rfl, by show (0 : Int) < 2147483629; decide, _, 69623, rfl, rfl, .inr ⟨by decide, by decide⟩, _, _, rfl, rfl, _, rfl, rfl⟩
        · exact ⟨_, rfl, rfl⟩
    · rintro σ H' ⟨c, rfl, rfl⟩
      refine ⟨.int c, rfl, c, 2147483629, rfl, rfl, by show (0 : Int) < 2147483629; decide, _, 48271, rfl, rfl, .inr ⟨by decide, by decide⟩, .int k, rfl, 40692, k, rfl, rfl, .inl ⟨by decide, by decide⟩, _, _, rfl, rfl, _, 2147483629, rfl, rfl, by show (0 : Int) < 2147483629; decide, _, 1, rfl, rfl, ?_⟩
      refine ⟨.int c, rfl, by show 2 ≤ sizeLine; decide, fun p np => ?_⟩
      refine ⟨.int c, rfl, 10, 18, rfl, rfl, ⟨by decide, by decide, by decide⟩, c, _, rfl, rfl, .inr ⟨_, rfl, ?_⟩⟩
      have hx : ∃ z : Int, atI [V.int 0, V.int c] (if (decide ((10 : Int) ^ (18 : Int).toNat ≤ c)) = true then 1 else 0) = some (.int z) := by
        by_cases h : (decide ((10 : Int) ^ (18 : Int).toNat ≤ c)) = true
        · rw [if_pos h]
          exact ⟨c, rfl⟩
        · rw [if_neg h]
          exact ⟨0, rfl⟩
      obtain ⟨z, hz⟩ := hx
      refine ⟨p, _, _, .int z, rfl, rfl, SqL.of upd_same, hz, _, rfl, by show 3 ≤ sizeLine; decide, fun b nb => ?_⟩
      refine q b _ ?_ ((same_new np).trans (same_new nb)) ⟨_, _, _, upd_same⟩
      exact (same_new np).free nb
end
section
variable {P : Program} {w : World} {K : PySem.W.Frag} {mg : Str → Option Value} {base : Heap}
def lotC (T : Txt K w mg) (v1 v2 : V) : List (Addr × Option (List (Str × V))) := [(T.a_NoEngine, some [("word", v1)]), (T.a_NoYard, some [("number", v2), ("word", v1)]), (T.a_NoText, some [("at", v1)]), (T.a_OwnWay, some [("number", v1)]), (T.a_TooMany, some [("most", v1)]), (T.a_TooLong, some [("most", v1)]), (T.a_Full, some [("most", v1)]), (T.a_NoColour, some [("colour", v1)]), (T.a_Broken, some [("at", v1)]), (T.a_NoRow, none), (T.a_NoNumber, some [("number", v1)]), (T.a_NoRail, some [("place", v2), ("number", v1)]), (T.a_NoStood, some [("k", v1)])]
def spMade (T : Txt K w mg) : Sp := fun vs H Q _ => ∃ v1 v2, vs = [v1, v2] ∧ ∀ p L H', Same H H' → H' p = some (.lst (L.map V.ref)) → LotsAt H' L (lotC T v1 v2) → Q (.ref p) H'
theorem newL {H : Hp} {xs : List V} {Q : VK} (k : ∀ p H2, Same H H2 → H2 p = some (.lst xs) → Q (.ref p) H2) : ∀ p, H p = none → Q (.ref p) (upd H p (.lst xs)) := fun p np => k p _ (same_new np) upd_same
theorem r_catL {H : Hp} {p1 p2 : Addr} {xs ys : List V} {Q : VK} (h1 : H p1 = some (.lst xs)) (h2 : H p2 = some (.lst ys)) (hl : xs.length + ys.length ≤ 1000) (k : ∀ p H2, Same H H2 → H2 p = some (.lst (xs ++ ys)) → Q (.ref p) H2) : rCat (.ref p1) (.ref p2) H Q :=
  ⟨p1, p2, xs, ys, rfl, rfl, h1, h2, Nat.le_of_lt (small1000 hl), newL k⟩
theorem LotsAt.head {H : Hp} {L : List Addr} {c : Addr × Option (List (Str × V))} {cs : List (Addr × Option (List (Str × V)))} (h : LotsAt H L (c :: cs)) : ∃ a L', L = a :: L' ∧ LotAt H a c ∧ LotsAt H L' cs := by
  cases h with
  | cons h1 h2 => exact ⟨_, _, rfl, h1, h2⟩
theorem LotsAt.nilOf {H : Hp} {L : List Addr} (h : LotsAt H L []) : L = [] := by
  cases h
  rfl
theorem LotAt.ex {H : Hp} {a : Addr} {c : Addr × Option (List (Str × V))} (h : LotAt H a c) : ∃ d, H a = some (exo a c.1 d) ∧ ∀ dd, d = some dd → ∃ fs, H dd = some (exd dd fs) := by
  obtain ⟨C, o⟩ := c
  cases o with
  | none => exact ⟨none, h, fun dd e => by cases e⟩
  | some fs =>
    obtain ⟨dd, h1, h2⟩ := h
    exact ⟨some dd, h1, fun dd' e => by cases e; exact ⟨fs, h2⟩⟩
theorem ok__law_made (T : Txt K w mg) : FnOk P w K mg base CX0 3 T.f__law_made T.fd__law_made ["_law_one", "_law_other"] (spMade T) := by
  refine T.F__law_made.ok sc__law_made (fun vs H Q E h => ?_) (fun cdv A outer s H vs Q E hr h => ?_)
  · obtain ⟨v1, v2, rfl, _⟩ := h
    rfl
  · obtain ⟨v1, v2, rfl, q⟩ := h
    refine ⟨_, (pss_cons (ps_set (i := 2) sc__law_made.nd rfl (.inl rfl) (pe_lst (pa_cons (pe_new T.x_NoEngine T.ic_NoEngine T.it_NoEngine (ok_NoEngine T) (hr.mono (by decide)) T.b_NoEngine (by rfl) T.g_NoEngine (pa_cons (pv 0) pa_nil)) (pa_cons (pe_new T.x_NoYard T.ic_NoYard T.it_NoYard (ok_NoYard T) (hr.mono (by decide)) T.b_NoYard (by rfl) T.g_NoYard (pa_cons (pv 0) (pa_cons (pv 1) pa_nil))) (pa_cons (pe_new T.x_NoText T.ic_NoText T.it_NoText (ok_NoText T) (hr.mono (by decide)) T.b_NoText (by rfl) T.g_NoText (pa_cons (pv 0) pa_nil)) (pa_cons (pe_new T.x_OwnWay T.ic_OwnWay T.it_OwnWay (ok_OwnWay T) (hr.mono (by decide)) T.b_OwnWay (by rfl) T.g_OwnWay (pa_cons (pv 0) pa_nil)) (pa_cons (pe_new T.x_TooMany T.ic_TooMany T.it_TooMany (ok_TooMany T) (hr.mono (by decide)) T.b_TooMany (by rfl) T.g_TooMany (pa_cons (pv 0) pa_nil)) (pa_cons (pe_new T.x_TooLong T.ic_TooLong T.it_TooLong (ok_TooLong T) (hr.mono (by decide)) T.b_TooLong (by rfl) T.g_TooLong (pa_cons (pv 0) pa_nil)) (pa_cons (pe_new T.x_Full T.ic_Full T.it_Full (ok_Full T) (hr.mono (by decide)) T.b_Full (by rfl) T.g_Full (pa_cons (pv 0) pa_nil)) pa_nil)))))))))
 (pss_one (ps_ret (pe_op op_cat (pv 2) (pe_lst (pa_cons (pe_new T.x_NoColour T.ic_NoColour T.it_NoColour (ok_NoColour T) (hr.mono (by decide)) T.b_NoColour (by rfl) T.g_NoColour (pa_cons (pv 0) pa_nil)) (pa_cons (pe_new T.x_Broken T.ic_Broken T.it_Broken (ok_Broken T) (hr.mono (by decide)) T.b_Broken (by rfl) T.g_Broken (pa_cons (pv 0) pa_nil)) (pa_cons (pe_new0 PySem.F.excBase_ValueError T.q_NoRow T.g_NoRow T.k_NoRow (by rfl)) (pa_cons (pe_new T.x_NoNumber T.ic_NoNumber T.it_NoNumber (ok_NoNumber T) (hr.mono (by decide)) T.b_NoNumber (by rfl) T.g_NoNumber (pa_cons (pv 0) pa_nil)) (pa_cons (pe_new T.x_NoRail T.ic_NoRail T.it_NoRail (ok_NoRail T) (hr.mono (by decide)) T.b_NoRail (by rfl) T.g_NoRail (pa_cons (pv 0) (pa_cons (pv 1) pa_nil))) (pa_cons (pe_new T.x_NoStood T.ic_NoStood T.it_NoStood (ok_NoStood T) (hr.mono (by decide)) T.b_NoStood (by rfl) T.g_NoStood (pa_cons (pv 0) pa_nil)) pa_nil))))))))))), ?_⟩
    try dsimp only
    refine r_seq (r_asg (r_lst (r_cons (r_new1 (fun R h => ⟨v1, rfl, h⟩) fun a0 H0 s0 l0 => ?_))))
    have L0 : LotsAt H0 [a0] [(T.a_NoEngine, some [("word", v1)])] := .cons l0 .nil
    refine r_cons (r_new2 (fun R h => ⟨v1, rfl, v2, rfl, h⟩) fun a1 H1 s1 l1 => ?_)
    have L1 := (L0.up s1).snoc l1
    refine r_cons (r_new1 (fun R h => ⟨v1, rfl, h⟩) fun a2 H2 s2 l2 => ?_)
    have L2 := (L1.up s2).snoc l2
    refine r_cons (r_new1 (fun R h => ⟨v1, rfl, h⟩) fun a3 H3 s3 l3 => ?_)
    have L3 := (L2.up s3).snoc l3
    refine r_cons (r_new1 (fun R h => ⟨v1, rfl, h⟩) fun a4 H4 s4 l4 => ?_)
    have L4 := (L3.up s4).snoc l4
    refine r_cons (r_new1 (fun R h => ⟨v1, rfl, h⟩) fun a5 H5 s5 l5 => ?_)
    have L5 := (L4.up s5).snoc l5
    refine r_cons (r_new1 (fun R h => ⟨v1, rfl, h⟩) fun a6 H6 s6 l6 => ?_)
    have L6 := (L5.up s6).snoc l6
    refine r_nil ⟨by show 7 ≤ sizeLine; decide, fun p0 np0 => ?_⟩
    have t0 : Same H6 (upd H6 p0 (.lst [.ref a0, .ref a1, .ref a2, .ref a3, .ref a4, .ref a5, .ref a6])) := same_new np0
    have h0 : (upd H6 p0 (.lst [.ref a0, .ref a1, .ref a2, .ref a3, .ref a4, .ref a5, .ref a6])) p0 = some (.lst [.ref a0, .ref a1, .ref a2, .ref a3, .ref a4, .ref a5, .ref a6]) := upd_same
    generalize upd H6 p0 (.lst [.ref a0, .ref a1, .ref a2, .ref a3, .ref a4, .ref a5, .ref a6]) = K0 at t0 h0 ⊢
    have L6z := L6.up t0
    have hq0q := h0
    refine r_nm ?_
    try dsimp only
    refine r_ret (r_op (r_v (v := .ref p0) rfl (r_lst (r_cons (r_new1 (fun R h => ⟨v1, rfl, h⟩) fun a7 H7 s7 l7 => ?_)))))
    have L7 := (L6z.up s7).snoc l7
    have hq7 := s7 _ _ hq0q
    refine r_cons (r_new1 (fun R h => ⟨v1, rfl, h⟩) fun a8 H8 s8 l8 => ?_)
    have L8 := (L7.up s8).snoc l8
    have hq8 := s8 _ _ hq7
    refine r_cons (r_new0 fun a9 H9 s9 l9 => ?_)
    have L9 := (L8.up s9).snoc l9
    have hq9 := s9 _ _ hq8
    refine r_cons (r_new1 (fun R h => ⟨v1, rfl, h⟩) fun a10 H10 s10 l10 => ?_)
    have L10 := (L9.up s10).snoc l10
    have hq10 := s10 _ _ hq9
    refine r_cons (r_new2 (fun R h => ⟨v1, rfl, v2, rfl, h⟩) fun a11 H11 s11 l11 => ?_)
    have L11 := (L10.up s11).snoc l11
    have hq11 := s11 _ _ hq10
    refine r_cons (r_new1 (fun R h => ⟨v1, rfl, h⟩) fun a12 H12 s12 l12 => ?_)
    have L12 := (L11.up s12).snoc l12
    have hq12 := s12 _ _ hq11
    refine r_nil ⟨by show 6 ≤ sizeLine; decide, fun p1 np1 => ?_⟩
    have t1 : Same H12 (upd H12 p1 (.lst [.ref a7, .ref a8, .ref a9, .ref a10, .ref a11, .ref a12])) := same_new np1
    have h1 : (upd H12 p1 (.lst [.ref a7, .ref a8, .ref a9, .ref a10, .ref a11, .ref a12])) p1 = some (.lst [.ref a7, .ref a8, .ref a9, .ref a10, .ref a11, .ref a12]) := upd_same
    generalize upd H12 p1 (.lst [.ref a7, .ref a8, .ref a9, .ref a10, .ref a11, .ref a12]) = K1 at t1 h1 ⊢
    refine ⟨p0, p1, _, _, rfl, rfl, t1 _ _ hq12, h1, by show 7 + 6 ≤ sizeLine; decide, fun q1 nq1 => ?_⟩
    have u1 : Same K1 (upd K1 q1 (.lst ([.ref a0, .ref a1, .ref a2, .ref a3, .ref a4, .ref a5, .ref a6] ++ [.ref a7, .ref a8, .ref a9, .ref a10, .ref a11, .ref a12]))) := same_new nq1
    have hqq1 : (upd K1 q1 (.lst ([.ref a0, .ref a1, .ref a2, .ref a3, .ref a4, .ref a5, .ref a6] ++ [.ref a7, .ref a8, .ref a9, .ref a10, .ref a11, .ref a12]))) q1 = some (.lst ([.ref a0, .ref a1, .ref a2, .ref a3, .ref a4, .ref a5, .ref a6] ++ [.ref a7, .ref a8, .ref a9, .ref a10, .ref a11, .ref a12])) := upd_same
    generalize upd K1 q1 (.lst ([.ref a0, .ref a1, .ref a2, .ref a3, .ref a4, .ref a5, .ref a6] ++ [.ref a7, .ref a8, .ref a9, .ref a10, .ref a11, .ref a12])) = M1 at u1 hqq1 ⊢
    have L12z := (L12.up t1).up u1
    have hq1q := hqq1
    exact q q1 [a0, a1, a2, a3, a4, a5, a6, a7, a8, a9, a10, a11, a12] _ (((((((((((((((s0.trans s1).trans s2).trans s3).trans s4).trans s5).trans s6).trans t0).trans s7).trans s8).trans s9).trans s10).trans s11).trans s12).trans t1).trans u1) hqq1 L12z
theorem ok__law_named (T : Txt K w mg) : FnOk P w K mg base CX0 3 T.f__law_named T.fd__law_named ["_law_one", "_law_other"] (spMade T) := by
  refine T.F__law_named.ok sc__law_named (fun vs H Q E h => ?_) (fun cdv A outer s H vs Q E hr h => ?_)
  · obtain ⟨v1, v2, rfl, _⟩ := h
    rfl
  · obtain ⟨v1, v2, rfl, q⟩ := h
    refine ⟨_, (pss_cons (ps_set (i := 2) sc__law_named.nd rfl (.inl rfl) (pe_lst (pa_cons (pe_newK T.x_NoEngine T.ic_NoEngine T.it_NoEngine (ok_NoEngine T) (hr.mono (by decide)) T.kb_NoEngine (by rfl) T.g_NoEngine (pk_cons (pv 0) pk_nil)) (pa_cons (pe_newK T.x_NoYard T.ic_NoYard T.it_NoYard (ok_NoYard T) (hr.mono (by decide)) T.kb_NoYard (by rfl) T.g_NoYard (pk_cons (pv 1) (pk_cons (pv 0) pk_nil))) (pa_cons (pe_newK T.x_NoText T.ic_NoText T.it_NoText (ok_NoText T) (hr.mono (by decide)) T.kb_NoText (by rfl) T.g_NoText (pk_cons (pv 0) pk_nil)) (pa_cons (pe_newK T.x_OwnWay T.ic_OwnWay T.it_OwnWay (ok_OwnWay T) (hr.mono (by decide)) T.kb_OwnWay (by rfl) T.g_OwnWay (pk_cons (pv 0) pk_nil)) pa_nil))))))
 (pss_cons (ps_set (i := 2) sc__law_named.nd rfl (.inl rfl) (pe_op op_cat (pv 2) (pe_lst (pa_cons (pe_newK T.x_TooMany T.ic_TooMany T.it_TooMany (ok_TooMany T) (hr.mono (by decide)) T.kb_TooMany (by rfl) T.g_TooMany (pk_cons (pv 0) pk_nil)) (pa_cons (pe_newK T.x_TooLong T.ic_TooLong T.it_TooLong (ok_TooLong T) (hr.mono (by decide)) T.kb_TooLong (by rfl) T.g_TooLong (pk_cons (pv 0) pk_nil)) (pa_cons (pe_newK T.x_Full T.ic_Full T.it_Full (ok_Full T) (hr.mono (by decide)) T.kb_Full (by rfl) T.g_Full (pk_cons (pv 0) pk_nil)) (pa_cons (pe_newK T.x_NoColour T.ic_NoColour T.it_NoColour (ok_NoColour T) (hr.mono (by decide)) T.kb_NoColour (by rfl) T.g_NoColour (pk_cons (pv 0) pk_nil)) (pa_cons (pe_newK T.x_Broken T.ic_Broken T.it_Broken (ok_Broken T) (hr.mono (by decide)) T.kb_Broken (by rfl) T.g_Broken (pk_cons (pv 0) pk_nil)) pa_nil))))))))
 (pss_one (ps_ret (pe_op op_cat (pv 2) (pe_lst (pa_cons (pe_new0 PySem.F.excBase_ValueError T.q_NoRow T.g_NoRow T.k_NoRow (by rfl)) (pa_cons (pe_newK T.x_NoNumber T.ic_NoNumber T.it_NoNumber (ok_NoNumber T) (hr.mono (by decide)) T.kb_NoNumber (by rfl) T.g_NoNumber (pk_cons (pv 0) pk_nil)) (pa_cons (pe_newK T.x_NoRail T.ic_NoRail T.it_NoRail (ok_NoRail T) (hr.mono (by decide)) T.kb_NoRail (by rfl) T.g_NoRail (pk_cons (pv 1) (pk_cons (pv 0) pk_nil))) (pa_cons (pe_newK T.x_NoStood T.ic_NoStood T.it_NoStood (ok_NoStood T) (hr.mono (by decide)) T.kb_NoStood (by rfl) T.g_NoStood (pk_cons (pv 0) pk_nil)) pa_nil)))))))))), ?_⟩
    try dsimp only
    refine r_seq (r_asg (r_lst (r_cons (r_newK1 (fun R h => ⟨v1, rfl, h⟩) fun a0 H0 s0 l0 => ?_))))
    have L0 : LotsAt H0 [a0] [(T.a_NoEngine, some [("word", v1)])] := .cons l0 .nil
    refine r_cons (r_newK2 (fun R h => ⟨v2, rfl, v1, rfl, h⟩) fun a1 H1 s1 l1 => ?_)
    have L1 := (L0.up s1).snoc l1
    refine r_cons (r_newK1 (fun R h => ⟨v1, rfl, h⟩) fun a2 H2 s2 l2 => ?_)
    have L2 := (L1.up s2).snoc l2
    refine r_cons (r_newK1 (fun R h => ⟨v1, rfl, h⟩) fun a3 H3 s3 l3 => ?_)
    have L3 := (L2.up s3).snoc l3
    refine r_nil ⟨by show 4 ≤ sizeLine; decide, fun p0 np0 => ?_⟩
    have t0 : Same H3 (upd H3 p0 (.lst [.ref a0, .ref a1, .ref a2, .ref a3])) := same_new np0
    have h0 : (upd H3 p0 (.lst [.ref a0, .ref a1, .ref a2, .ref a3])) p0 = some (.lst [.ref a0, .ref a1, .ref a2, .ref a3]) := upd_same
    generalize upd H3 p0 (.lst [.ref a0, .ref a1, .ref a2, .ref a3]) = K0 at t0 h0 ⊢
    have L3z := L3.up t0
    have hq0q := h0
    refine r_nm ?_
    try dsimp only
    refine r_seq (r_asg (r_op (r_v (v := .ref p0) rfl (r_lst (r_cons (r_newK1 (fun R h => ⟨v1, rfl, h⟩) fun a4 H4 s4 l4 => ?_))))))
    have L4 := (L3z.up s4).snoc l4
    have hq4 := s4 _ _ hq0q
    refine r_cons (r_newK1 (fun R h => ⟨v1, rfl, h⟩) fun a5 H5 s5 l5 => ?_)
    have L5 := (L4.up s5).snoc l5
    have hq5 := s5 _ _ hq4
    refine r_cons (r_newK1 (fun R h => ⟨v1, rfl, h⟩) fun a6 H6 s6 l6 => ?_)
    have L6 := (L5.up s6).snoc l6
    have hq6 := s6 _ _ hq5
    refine r_cons (r_newK1 (fun R h => ⟨v1, rfl, h⟩) fun a7 H7 s7 l7 => ?_)
    have L7 := (L6.up s7).snoc l7
    have hq7 := s7 _ _ hq6
    refine r_cons (r_newK1 (fun R h => ⟨v1, rfl, h⟩) fun a8 H8 s8 l8 => ?_)
    have L8 := (L7.up s8).snoc l8
    have hq8 := s8 _ _ hq7
    refine r_nil ⟨by show 5 ≤ sizeLine; decide, fun p1 np1 => ?_⟩
    have t1 : Same H8 (upd H8 p1 (.lst [.ref a4, .ref a5, .ref a6, .ref a7, .ref a8])) := same_new np1
    have h1 : (upd H8 p1 (.lst [.ref a4, .ref a5, .ref a6, .ref a7, .ref a8])) p1 = some (.lst [.ref a4, .ref a5, .ref a6, .ref a7, .ref a8]) := upd_same
    generalize upd H8 p1 (.lst [.ref a4, .ref a5, .ref a6, .ref a7, .ref a8]) = K1 at t1 h1 ⊢
    refine ⟨p0, p1, _, _, rfl, rfl, t1 _ _ hq8, h1, by show 4 + 5 ≤ sizeLine; decide, fun q1 nq1 => ?_⟩
    have u1 : Same K1 (upd K1 q1 (.lst ([.ref a0, .ref a1, .ref a2, .ref a3] ++ [.ref a4, .ref a5, .ref a6, .ref a7, .ref a8]))) := same_new nq1
    have hqq1 : (upd K1 q1 (.lst ([.ref a0, .ref a1, .ref a2, .ref a3] ++ [.ref a4, .ref a5, .ref a6, .ref a7, .ref a8]))) q1 = some (.lst ([.ref a0, .ref a1, .ref a2, .ref a3] ++ [.ref a4, .ref a5, .ref a6, .ref a7, .ref a8])) := upd_same
    generalize upd K1 q1 (.lst ([.ref a0, .ref a1, .ref a2, .ref a3] ++ [.ref a4, .ref a5, .ref a6, .ref a7, .ref a8])) = M1 at u1 hqq1 ⊢
    have L8z := (L8.up t1).up u1
    have hq1q := hqq1
    refine r_nm ?_
    try dsimp only
    refine r_ret (r_op (r_v (v := .ref q1) rfl (r_lst (r_cons (r_new0 fun a9 H9 s9 l9 => ?_)))))
    have L9 := (L8z.up s9).snoc l9
    have hq9 := s9 _ _ hq1q
    refine r_cons (r_newK1 (fun R h => ⟨v1, rfl, h⟩) fun a10 H10 s10 l10 => ?_)
    have L10 := (L9.up s10).snoc l10
    have hq10 := s10 _ _ hq9
    refine r_cons (r_newK2 (fun R h => ⟨v2, rfl, v1, rfl, h⟩) fun a11 H11 s11 l11 => ?_)
    have L11 := (L10.up s11).snoc l11
    have hq11 := s11 _ _ hq10
    refine r_cons (r_newK1 (fun R h => ⟨v1, rfl, h⟩) fun a12 H12 s12 l12 => ?_)
    have L12 := (L11.up s12).snoc l12
    have hq12 := s12 _ _ hq11
    refine r_nil ⟨by show 4 ≤ sizeLine; decide, fun p2 np2 => ?_⟩
    have t2 : Same H12 (upd H12 p2 (.lst [.ref a9, .ref a10, .ref a11, .ref a12])) := same_new np2
    have h2 : (upd H12 p2 (.lst [.ref a9, .ref a10, .ref a11, .ref a12])) p2 = some (.lst [.ref a9, .ref a10, .ref a11, .ref a12]) := upd_same
    generalize upd H12 p2 (.lst [.ref a9, .ref a10, .ref a11, .ref a12]) = K2 at t2 h2 ⊢
    refine ⟨q1, p2, _, _, rfl, rfl, t2 _ _ hq12, h2, by show 9 + 4 ≤ sizeLine; decide, fun q2 nq2 => ?_⟩
    have u2 : Same K2 (upd K2 q2 (.lst (([.ref a0, .ref a1, .ref a2, .ref a3] ++ [.ref a4, .ref a5, .ref a6, .ref a7, .ref a8]) ++ [.ref a9, .ref a10, .ref a11, .ref a12]))) := same_new nq2
    have hqq2 : (upd K2 q2 (.lst (([.ref a0, .ref a1, .ref a2, .ref a3] ++ [.ref a4, .ref a5, .ref a6, .ref a7, .ref a8]) ++ [.ref a9, .ref a10, .ref a11, .ref a12]))) q2 = some (.lst (([.ref a0, .ref a1, .ref a2, .ref a3] ++ [.ref a4, .ref a5, .ref a6, .ref a7, .ref a8]) ++ [.ref a9, .ref a10, .ref a11, .ref a12])) := upd_same
    generalize upd K2 q2 (.lst (([.ref a0, .ref a1, .ref a2, .ref a3] ++ [.ref a4, .ref a5, .ref a6, .ref a7, .ref a8]) ++ [.ref a9, .ref a10, .ref a11, .ref a12])) = M2 at u2 hqq2 ⊢
    have L12z := (L12.up t2).up u2
    have hq2q := hqq2
    exact q q2 [a0, a1, a2, a3, a4, a5, a6, a7, a8, a9, a10, a11, a12] _ (((((((((((((((((s0.trans s1).trans s2).trans s3).trans t0).trans s4).trans s5).trans s6).trans s7).trans s8).trans t1).trans u1).trans s9).trans s10).trans s11).trans s12).trans t2).trans u2) hqq2 L12z
def spFields (T : Txt K w mg) : Sp := fun vs H Q _ => ∃ (p : Addr) (L : List Addr) (v1 v2 : V), vs = [.ref p] ∧ H p = some (.lst (L.map V.ref)) ∧ LotsAt H L (lotC T v1 v2) ∧ ∀ p2 H', Same H H' → H' p2 = some (.lst [v1, v1, v2, v1, v1, v1, v1, v1, v1, v1, v1, v1, v2, v1]) → Q (.ref p2) H'
theorem look1 (f : Str) (v : V) : List.lookup f [(f, v)] = some v := by rw [lookup_put, if_pos rfl]
theorem look2 {f g : Str} (v u : V) (h : f ≠ g) : List.lookup f [(g, u), (f, v)] = some v := by rw [lookup_put, if_neg h, lookup_put, if_pos rfl]
theorem look3 (f g : Str) (v u : V) : List.lookup g [(g, u), (f, v)] = some u := by rw [lookup_put, if_pos rfl]
theorem ok__law_fields (T : Txt K w mg) : FnOk P w K mg base CX0 1 T.f__law_fields T.fd__law_fields ["_law_lot"] (spFields T) := by
  refine T.F__law_fields.ok sc__law_fields (fun vs H Q E h => ?_) (fun cdv A outer s H vs Q E hr h => ?_)
  · obtain ⟨p, L, v1, v2, rfl, _⟩ := h
    rfl
  · obtain ⟨p, L, v1, v2, rfl, hp, hL, q⟩ := h
    refine ⟨_, (pss_cons (ps_set (i := 1) sc__law_fields.nd rfl (.inl rfl) (pe_lst (pa_cons (pe_fld (pe_ix ix_list (pv 0) pe_int (fun _ _ => rfl))) (pa_cons (pe_fld (pe_ix ix_list (pv 0) pe_int (fun _ _ => rfl))) (pa_cons (pe_fld (pe_ix ix_list (pv 0) pe_int (fun _ _ => rfl))) (pa_cons (pe_fld (pe_ix ix_list (pv 0) pe_int (fun _ _ => rfl))) (pa_cons (pe_fld (pe_ix ix_list (pv 0) pe_int (fun _ _ => rfl))) (pa_cons (pe_fld (pe_ix ix_list (pv 0) pe_int (fun _ _ => rfl))) (pa_cons (pe_fld (pe_ix ix_list (pv 0) pe_int (fun _ _ => rfl))) (pa_cons (pe_fld (pe_ix ix_list (pv 0) pe_int (fun _ _ => rfl))) pa_nil))))))))))
 (pss_one (ps_ret (pe_op op_cat (pv 1) (pe_lst (pa_cons (pe_fld (pe_ix ix_list (pv 0) pe_int (fun _ _ => rfl))) (pa_cons (pe_fld (pe_ix ix_list (pv 0) pe_int (fun _ _ => rfl))) (pa_cons (pe_fld (pe_ix ix_list (pv 0) pe_int (fun _ _ => rfl))) (pa_cons (pe_fld (pe_ix ix_list (pv 0) pe_int (fun _ _ => rfl))) (pa_cons (pe_fld (pe_ix ix_list (pv 0) pe_int (fun _ _ => rfl))) (pa_cons (pe_fld (pe_ix ix_list (pv 0) pe_int (fun _ _ => rfl))) pa_nil))))))))))), ?_⟩
    obtain ⟨a0, L0, rfl, l0, h0⟩ := hL.head
    obtain ⟨d0, e0, g0⟩ := l0
    obtain ⟨a1, L1, rfl, l1, h1⟩ := h0.head
    obtain ⟨d1, e1, g1⟩ := l1
    obtain ⟨a2, L2, rfl, l2, h2⟩ := h1.head
    obtain ⟨d2, e2, g2⟩ := l2
    obtain ⟨a3, L3, rfl, l3, h3⟩ := h2.head
    obtain ⟨d3, e3, g3⟩ := l3
    obtain ⟨a4, L4, rfl, l4, h4⟩ := h3.head
    obtain ⟨d4, e4, g4⟩ := l4
    obtain ⟨a5, L5, rfl, l5, h5⟩ := h4.head
    obtain ⟨d5, e5, g5⟩ := l5
    obtain ⟨a6, L6, rfl, l6, h6⟩ := h5.head
    obtain ⟨d6, e6, g6⟩ := l6
    obtain ⟨a7, L7, rfl, l7, h7⟩ := h6.head
    obtain ⟨d7, e7, g7⟩ := l7
    obtain ⟨a8, L8, rfl, l8, h8⟩ := h7.head
    obtain ⟨d8, e8, g8⟩ := l8
    obtain ⟨a9, L9, rfl, l9, h9⟩ := h8.head
    obtain ⟨a10, L10, rfl, l10, h10⟩ := h9.head
    obtain ⟨d10, e10, g10⟩ := l10
    obtain ⟨a11, L11, rfl, l11, h11⟩ := h10.head
    obtain ⟨d11, e11, g11⟩ := l11
    obtain ⟨a12, L12, rfl, l12, h12⟩ := h11.head
    obtain ⟨d12, e12, g12⟩ := l12
    cases h12.nilOf
    refine r_seq (r_asg (r_lst (r_cons ⟨.ref p, rfl, p, _, 0, .ref a0, rfl, rfl, SqL.of hp, rfl, a0, T.a_NoEngine, d0, _, v1, rfl, T.xf_NoEngine, T.n_NoEngine_word, e0, g0, look1 _ _, ?_⟩)))
    refine r_cons ⟨.ref p, rfl, p, _, 1, .ref a1, rfl, rfl, SqL.of hp, rfl, a1, T.a_NoYard, d1, _, v1, rfl, T.xf_NoYard, T.n_NoYard_word, e1, g1, look2 _ _ (by decide), ?_⟩
    refine r_cons ⟨.ref p, rfl, p, _, 1, .ref a1, rfl, rfl, SqL.of hp, rfl, a1, T.a_NoYard, d1, _, v2, rfl, T.xf_NoYard, T.n_NoYard_number, e1, g1, look3 _ _ _ _, ?_⟩
    refine r_cons ⟨.ref p, rfl, p, _, 2, .ref a2, rfl, rfl, SqL.of hp, rfl, a2, T.a_NoText, d2, _, v1, rfl, T.xf_NoText, T.n_NoText_at, e2, g2, look1 _ _, ?_⟩
    refine r_cons ⟨.ref p, rfl, p, _, 3, .ref a3, rfl, rfl, SqL.of hp, rfl, a3, T.a_OwnWay, d3, _, v1, rfl, T.xf_OwnWay, T.n_OwnWay_number, e3, g3, look1 _ _, ?_⟩
    refine r_cons ⟨.ref p, rfl, p, _, 4, .ref a4, rfl, rfl, SqL.of hp, rfl, a4, T.a_TooMany, d4, _, v1, rfl, T.xf_TooMany, T.n_TooMany_most, e4, g4, look1 _ _, ?_⟩
    refine r_cons ⟨.ref p, rfl, p, _, 5, .ref a5, rfl, rfl, SqL.of hp, rfl, a5, T.a_TooLong, d5, _, v1, rfl, T.xf_TooLong, T.n_TooLong_most, e5, g5, look1 _ _, ?_⟩
    refine r_cons ⟨.ref p, rfl, p, _, 6, .ref a6, rfl, rfl, SqL.of hp, rfl, a6, T.a_Full, d6, _, v1, rfl, T.xf_Full, T.n_Full_most, e6, g6, look1 _ _, ?_⟩
    refine r_nil ⟨by show 8 ≤ sizeLine; decide, fun p1 np1 => ?_⟩
    have t1 : Same H (upd H p1 (.lst [v1, v1, v2, v1, v1, v1, v1, v1])) := same_new np1
    have k1 : (upd H p1 (.lst [v1, v1, v2, v1, v1, v1, v1, v1])) p1 = some (.lst [v1, v1, v2, v1, v1, v1, v1, v1]) := upd_same
    generalize upd H p1 (.lst [v1, v1, v2, v1, v1, v1, v1, v1]) = H1 at t1 k1 ⊢
    refine r_nm ?_
    try dsimp only
    refine r_ret (r_op (r_v (v := .ref p1) rfl (r_lst (r_cons ⟨.ref p, rfl, p, _, 7, .ref a7, rfl, rfl, SqL.of (t1 _ _ hp), rfl, a7, T.a_NoColour, d7, _, v1, rfl, T.xf_NoColour, T.n_NoColour_colour, (t1 _ _ e7), (t1 _ _ g7), look1 _ _, ?_⟩))))
    refine r_cons ⟨.ref p, rfl, p, _, 8, .ref a8, rfl, rfl, SqL.of (t1 _ _ hp), rfl, a8, T.a_Broken, d8, _, v1, rfl, T.xf_Broken, T.n_Broken_at, (t1 _ _ e8), (t1 _ _ g8), look1 _ _, ?_⟩
    refine r_cons ⟨.ref p, rfl, p, _, 10, .ref a10, rfl, rfl, SqL.of (t1 _ _ hp), rfl, a10, T.a_NoNumber, d10, _, v1, rfl, T.xf_NoNumber, T.n_NoNumber_number, (t1 _ _ e10), (t1 _ _ g10), look1 _ _, ?_⟩
    refine r_cons ⟨.ref p, rfl, p, _, 11, .ref a11, rfl, rfl, SqL.of (t1 _ _ hp), rfl, a11, T.a_NoRail, d11, _, v1, rfl, T.xf_NoRail, T.n_NoRail_number, (t1 _ _ e11), (t1 _ _ g11), look2 _ _ (by decide), ?_⟩
    refine r_cons ⟨.ref p, rfl, p, _, 11, .ref a11, rfl, rfl, SqL.of (t1 _ _ hp), rfl, a11, T.a_NoRail, d11, _, v2, rfl, T.xf_NoRail, T.n_NoRail_place, (t1 _ _ e11), (t1 _ _ g11), look3 _ _ _ _, ?_⟩
    refine r_cons ⟨.ref p, rfl, p, _, 12, .ref a12, rfl, rfl, SqL.of (t1 _ _ hp), rfl, a12, T.a_NoStood, d12, _, v1, rfl, T.xf_NoStood, T.n_NoStood_k, (t1 _ _ e12), (t1 _ _ g12), look1 _ _, ?_⟩
    refine r_nil ⟨by show 6 ≤ sizeLine; decide, fun p2 np2 => ?_⟩
    have t2 : Same H1 (upd H1 p2 (.lst [v1, v1, v1, v1, v2, v1])) := same_new np2
    have k2 : (upd H1 p2 (.lst [v1, v1, v1, v1, v2, v1])) p2 = some (.lst [v1, v1, v1, v1, v2, v1]) := upd_same
    generalize upd H1 p2 (.lst [v1, v1, v1, v1, v2, v1]) = H2 at t2 k2 ⊢
    refine ⟨p1, p2, _, _, rfl, rfl, t2 _ _ k1, k2, by show 8 + 6 ≤ sizeLine; decide, fun p3 np3 => ?_⟩
    exact q p3 _ ((t1.trans t2).trans (same_new np3)) upd_same
def spIsis (T : Txt K w mg) (js : List Nat) : Sp := fun vs H Q _ => ∃ (a : Addr) (c : Addr × Option (List (Str × V))) (f : Nat → Bool), vs = [.ref a] ∧ LotAt H a c ∧ ExI K c.1 ∧ (∀ j u, T.asked[j]? = some u → PySem.W.kitOne K (.ref c.1) u = some (f j)) ∧
  ∀ p H', Same H H' → H' p = some (.lst (js.map fun j => .bl (f j))) → Q (.ref p) H'
theorem ok__law_sorts (T : Txt K w mg) : FnOk P w K mg base CX0 1 T.f__law_sorts T.fd__law_sorts ["_law_e"] (spIsis T [0, 1, 2, 3, 4, 5, 6, 7, 8, 9, 10, 11, 12]) := by
  refine T.F__law_sorts.ok sc__law_sorts (fun vs H Q E h => ?_) (fun cdv A outer s H vs Q E hr h => ?_)
  · obtain ⟨a, c, f, rfl, _⟩ := h
    rfl
  · obtain ⟨a, c, f, rfl, la, ei, hk, q⟩ := h
    refine ⟨_, (pss_cons (ps_set (i := 1) sc__law_sorts.nd rfl (.inl rfl) (pe_lst (pa_cons (pe_callB call_isE (by rfl) T.m_isinstance (by decide +kernel) (pa_cons (pv 0) (pa_cons (pe_glob (v := .ref T.a_NoEngine) (by rfl) T.g_NoEngine rfl) pa_nil))) (pa_cons (pe_callB call_isE (by rfl) T.m_isinstance (by decide +kernel) (pa_cons (pv 0) (pa_cons (pe_glob (v := .ref T.a_NoYard) (by rfl) T.g_NoYard rfl) pa_nil))) (pa_cons (pe_callB call_isE (by rfl) T.m_isinstance (by decide +kernel) (pa_cons (pv 0) (pa_cons (pe_glob (v := .ref T.a_NoText) (by rfl) T.g_NoText rfl) pa_nil))) (pa_cons (pe_callB call_isE (by rfl) T.m_isinstance (by decide +kernel) (pa_cons (pv 0) (pa_cons (pe_glob (v := .ref T.a_OwnWay) (by rfl) T.g_OwnWay rfl) pa_nil))) pa_nil))))))
 (pss_cons (ps_set (i := 1) sc__law_sorts.nd rfl (.inl rfl) (pe_op op_cat (pv 1) (pe_lst (pa_cons (pe_callB call_isE (by rfl) T.m_isinstance (by decide +kernel) (pa_cons (pv 0) (pa_cons (pe_glob (v := .ref T.a_TooMany) (by rfl) T.g_TooMany rfl) pa_nil))) (pa_cons (pe_callB call_isE (by rfl) T.m_isinstance (by decide +kernel) (pa_cons (pv 0) (pa_cons (pe_glob (v := .ref T.a_TooLong) (by rfl) T.g_TooLong rfl) pa_nil))) (pa_cons (pe_callB call_isE (by rfl) T.m_isinstance (by decide +kernel) (pa_cons (pv 0) (pa_cons (pe_glob (v := .ref T.a_Full) (by rfl) T.g_Full rfl) pa_nil))) (pa_cons (pe_callB call_isE (by rfl) T.m_isinstance (by decide +kernel) (pa_cons (pv 0) (pa_cons (pe_glob (v := .ref T.a_NoColour) (by rfl) T.g_NoColour rfl) pa_nil))) pa_nil)))))))
 (pss_cons (ps_set (i := 1) sc__law_sorts.nd rfl (.inl rfl) (pe_op op_cat (pv 1) (pe_lst (pa_cons (pe_callB call_isE (by rfl) T.m_isinstance (by decide +kernel) (pa_cons (pv 0) (pa_cons (pe_glob (v := .ref T.a_Broken) (by rfl) T.g_Broken rfl) pa_nil))) (pa_cons (pe_callB call_isE (by rfl) T.m_isinstance (by decide +kernel) (pa_cons (pv 0) (pa_cons (pe_glob (v := .ref T.a_NoRow) (by rfl) T.g_NoRow rfl) pa_nil))) (pa_cons (pe_callB call_isE (by rfl) T.m_isinstance (by decide +kernel) (pa_cons (pv 0) (pa_cons (pe_glob (v := .ref T.a_NoNumber) (by rfl) T.g_NoNumber rfl) pa_nil))) (pa_cons (pe_callB call_isE (by rfl) T.m_isinstance (by decide +kernel) (pa_cons (pv 0) (pa_cons (pe_glob (v := .ref T.a_NoRail) (by rfl) T.g_NoRail rfl) pa_nil))) pa_nil)))))))
 (pss_one (ps_ret (pe_op op_cat (pv 1) (pe_lst (pa_cons (pe_callB call_isE (by rfl) T.m_isinstance (by decide +kernel) (pa_cons (pv 0) (pa_cons (pe_glob (v := .ref T.a_NoStood) (by rfl) T.g_NoStood rfl) pa_nil))) pa_nil)))))))), ?_⟩
    obtain ⟨d, ea, ed⟩ := la.ex
    have ask : ∀ (j : Nat) (u : Value), [Value.ref T.a_NoEngine, Value.ref T.a_NoYard, Value.ref T.a_NoText, Value.ref T.a_OwnWay, Value.ref T.a_TooMany, Value.ref T.a_TooLong, Value.ref T.a_Full, Value.ref T.a_NoColour, Value.ref T.a_Broken, Value.ref T.a_NoRow, Value.ref T.a_NoNumber, Value.ref T.a_NoRail, Value.ref T.a_NoStood, Value.ref T.a_RailError, Value.type "ValueError", Value.type "IndexError", Value.type "LookupError", Value.type "KeyError"][j]? = some u → PySem.W.kitOne K (.ref c.1) u = some (f j) := fun j u h => hk j u (by rw [T.asked_is]; exact h)
    try dsimp only
    refine r_seq (r_asg (r_lst (r_cons ⟨.ref a, rfl, a, c.1, d, .ref T.a_NoEngine, _, _, rfl, ea, ed, ei, .own _, ask 0 _ rfl, ?_⟩)))
    refine r_cons ⟨.ref a, rfl, a, c.1, d, .ref T.a_NoYard, _, _, rfl, ea, ed, ei, .own _, ask 1 _ rfl, ?_⟩
    refine r_cons ⟨.ref a, rfl, a, c.1, d, .ref T.a_NoText, _, _, rfl, ea, ed, ei, .own _, ask 2 _ rfl, ?_⟩
    refine r_cons ⟨.ref a, rfl, a, c.1, d, .ref T.a_OwnWay, _, _, rfl, ea, ed, ei, .own _, ask 3 _ rfl, ?_⟩
    refine r_nil ⟨by show 4 ≤ sizeLine; decide, fun p0 np0 => ?_⟩
    have t0 : Same H (upd H p0 (.lst [.bl (f 0), .bl (f 1), .bl (f 2), .bl (f 3)])) := same_new np0
    have h0 : (upd H p0 (.lst [.bl (f 0), .bl (f 1), .bl (f 2), .bl (f 3)])) p0 = some (.lst [.bl (f 0), .bl (f 1), .bl (f 2), .bl (f 3)]) := upd_same
    generalize upd H p0 (.lst [.bl (f 0), .bl (f 1), .bl (f 2), .bl (f 3)]) = K0 at t0 h0 ⊢
    have S0 := t0
    have k0 := h0
    refine r_nm ?_
    have ea0 := S0 _ _ ea
    have ed0 : ∀ dd, d = some dd → ∃ fs, K0 dd = some (exd dd fs) := fun dd e => (ed dd e).elim fun fs h => ⟨fs, S0 _ _ h⟩
    try dsimp only
    refine r_seq (r_asg (r_op (r_v (v := .ref p0) rfl (r_lst (r_cons ⟨.ref a, rfl, a, c.1, d, .ref T.a_TooMany, _, _, rfl, ea0, ed0, ei, .own _, ask 4 _ rfl, ?_⟩)))))
    refine r_cons ⟨.ref a, rfl, a, c.1, d, .ref T.a_TooLong, _, _, rfl, ea0, ed0, ei, .own _, ask 5 _ rfl, ?_⟩
    refine r_cons ⟨.ref a, rfl, a, c.1, d, .ref T.a_Full, _, _, rfl, ea0, ed0, ei, .own _, ask 6 _ rfl, ?_⟩
    refine r_cons ⟨.ref a, rfl, a, c.1, d, .ref T.a_NoColour, _, _, rfl, ea0, ed0, ei, .own _, ask 7 _ rfl, ?_⟩
    refine r_nil ⟨by show 4 ≤ sizeLine; decide, fun p1 np1 => ?_⟩
    have t1 : Same K0 (upd K0 p1 (.lst [.bl (f 4), .bl (f 5), .bl (f 6), .bl (f 7)])) := same_new np1
    have h1 : (upd K0 p1 (.lst [.bl (f 4), .bl (f 5), .bl (f 6), .bl (f 7)])) p1 = some (.lst [.bl (f 4), .bl (f 5), .bl (f 6), .bl (f 7)]) := upd_same
    generalize upd K0 p1 (.lst [.bl (f 4), .bl (f 5), .bl (f 6), .bl (f 7)]) = K1 at t1 h1 ⊢
    refine ⟨p0, p1, _, _, rfl, rfl, t1 _ _ k0, h1, by show 4 + 4 ≤ sizeLine; decide, fun q1 nq1 => ?_⟩
    have u1 : Same K1 (upd K1 q1 (.lst ([.bl (f 0), .bl (f 1), .bl (f 2), .bl (f 3)] ++ [.bl (f 4), .bl (f 5), .bl (f 6), .bl (f 7)]))) := same_new nq1
    have k1 : (upd K1 q1 (.lst ([.bl (f 0), .bl (f 1), .bl (f 2), .bl (f 3)] ++ [.bl (f 4), .bl (f 5), .bl (f 6), .bl (f 7)]))) q1 = some (.lst ([.bl (f 0), .bl (f 1), .bl (f 2), .bl (f 3)] ++ [.bl (f 4), .bl (f 5), .bl (f 6), .bl (f 7)])) := upd_same
    generalize upd K1 q1 (.lst ([.bl (f 0), .bl (f 1), .bl (f 2), .bl (f 3)] ++ [.bl (f 4), .bl (f 5), .bl (f 6), .bl (f 7)])) = M1 at u1 k1 ⊢
    have S1 := (S0.trans t1).trans u1
    refine r_nm ?_
    have ea1 := S1 _ _ ea
    have ed1 : ∀ dd, d = some dd → ∃ fs, M1 dd = some (exd dd fs) := fun dd e => (ed dd e).elim fun fs h => ⟨fs, S1 _ _ h⟩
    try dsimp only
    refine r_seq (r_asg (r_op (r_v (v := .ref q1) rfl (r_lst (r_cons ⟨.ref a, rfl, a, c.1, d, .ref T.a_Broken, _, _, rfl, ea1, ed1, ei, .own _, ask 8 _ rfl, ?_⟩)))))
    refine r_cons ⟨.ref a, rfl, a, c.1, d, .ref T.a_NoRow, _, _, rfl, ea1, ed1, ei, .own _, ask 9 _ rfl, ?_⟩
    refine r_cons ⟨.ref a, rfl, a, c.1, d, .ref T.a_NoNumber, _, _, rfl, ea1, ed1, ei, .own _, ask 10 _ rfl, ?_⟩
    refine r_cons ⟨.ref a, rfl, a, c.1, d, .ref T.a_NoRail, _, _, rfl, ea1, ed1, ei, .own _, ask 11 _ rfl, ?_⟩
    refine r_nil ⟨by show 4 ≤ sizeLine; decide, fun p2 np2 => ?_⟩
    have t2 : Same M1 (upd M1 p2 (.lst [.bl (f 8), .bl (f 9), .bl (f 10), .bl (f 11)])) := same_new np2
    have h2 : (upd M1 p2 (.lst [.bl (f 8), .bl (f 9), .bl (f 10), .bl (f 11)])) p2 = some (.lst [.bl (f 8), .bl (f 9), .bl (f 10), .bl (f 11)]) := upd_same
    generalize upd M1 p2 (.lst [.bl (f 8), .bl (f 9), .bl (f 10), .bl (f 11)]) = K2 at t2 h2 ⊢
    refine ⟨q1, p2, _, _, rfl, rfl, t2 _ _ k1, h2, by show 8 + 4 ≤ sizeLine; decide, fun q2 nq2 => ?_⟩
    have u2 : Same K2 (upd K2 q2 (.lst (([.bl (f 0), .bl (f 1), .bl (f 2), .bl (f 3)] ++ [.bl (f 4), .bl (f 5), .bl (f 6), .bl (f 7)]) ++ [.bl (f 8), .bl (f 9), .bl (f 10), .bl (f 11)]))) := same_new nq2
    have k2 : (upd K2 q2 (.lst (([.bl (f 0), .bl (f 1), .bl (f 2), .bl (f 3)] ++ [.bl (f 4), .bl (f 5), .bl (f 6), .bl (f 7)]) ++ [.bl (f 8), .bl (f 9), .bl (f 10), .bl (f 11)]))) q2 = some (.lst (([.bl (f 0), .bl (f 1), .bl (f 2), .bl (f 3)] ++ [.bl (f 4), .bl (f 5), .bl (f 6), .bl (f 7)]) ++ [.bl (f 8), .bl (f 9), .bl (f 10), .bl (f 11)])) := upd_same
    generalize upd K2 q2 (.lst (([.bl (f 0), .bl (f 1), .bl (f 2), .bl (f 3)] ++ [.bl (f 4), .bl (f 5), .bl (f 6), .bl (f 7)]) ++ [.bl (f 8), .bl (f 9), .bl (f 10), .bl (f 11)])) = M2 at u2 k2 ⊢
    have S2 := (S1.trans t2).trans u2
    refine r_nm ?_
    have ea2 := S2 _ _ ea
    have ed2 : ∀ dd, d = some dd → ∃ fs, M2 dd = some (exd dd fs) := fun dd e => (ed dd e).elim fun fs h => ⟨fs, S2 _ _ h⟩
    try dsimp only
    refine r_ret (r_op (r_v (v := .ref q2) rfl (r_lst (r_cons ⟨.ref a, rfl, a, c.1, d, .ref T.a_NoStood, _, _, rfl, ea2, ed2, ei, .own _, ask 12 _ rfl, ?_⟩))))
    refine r_nil ⟨by show 1 ≤ sizeLine; decide, fun p3 np3 => ?_⟩
    have t3 : Same M2 (upd M2 p3 (.lst [.bl (f 12)])) := same_new np3
    have h3 : (upd M2 p3 (.lst [.bl (f 12)])) p3 = some (.lst [.bl (f 12)]) := upd_same
    generalize upd M2 p3 (.lst [.bl (f 12)]) = K3 at t3 h3 ⊢
    refine ⟨q2, p3, _, _, rfl, rfl, t3 _ _ k2, h3, by show 12 + 1 ≤ sizeLine; decide, fun q3 nq3 => ?_⟩
    have u3 : Same K3 (upd K3 q3 (.lst ((([.bl (f 0), .bl (f 1), .bl (f 2), .bl (f 3)] ++ [.bl (f 4), .bl (f 5), .bl (f 6), .bl (f 7)]) ++ [.bl (f 8), .bl (f 9), .bl (f 10), .bl (f 11)]) ++ [.bl (f 12)]))) := same_new nq3
    have k3 : (upd K3 q3 (.lst ((([.bl (f 0), .bl (f 1), .bl (f 2), .bl (f 3)] ++ [.bl (f 4), .bl (f 5), .bl (f 6), .bl (f 7)]) ++ [.bl (f 8), .bl (f 9), .bl (f 10), .bl (f 11)]) ++ [.bl (f 12)]))) q3 = some (.lst ((([.bl (f 0), .bl (f 1), .bl (f 2), .bl (f 3)] ++ [.bl (f 4), .bl (f 5), .bl (f 6), .bl (f 7)]) ++ [.bl (f 8), .bl (f 9), .bl (f 10), .bl (f 11)]) ++ [.bl (f 12)])) := upd_same
    generalize upd K3 q3 (.lst ((([.bl (f 0), .bl (f 1), .bl (f 2), .bl (f 3)] ++ [.bl (f 4), .bl (f 5), .bl (f 6), .bl (f 7)]) ++ [.bl (f 8), .bl (f 9), .bl (f 10), .bl (f 11)]) ++ [.bl (f 12)])) = M3 at u3 k3 ⊢
    have S3 := (S2.trans t3).trans u3
    exact q q3 _ S3 k3
theorem ok__law_above (T : Txt K w mg) : FnOk P w K mg base CX0 1 T.f__law_above T.fd__law_above ["_law_e"] (spIsis T [13, 14, 15, 16, 17]) := by
  refine T.F__law_above.ok sc__law_above (fun vs H Q E h => ?_) (fun cdv A outer s H vs Q E hr h => ?_)
  · obtain ⟨a, c, f, rfl, _⟩ := h
    rfl
  · obtain ⟨a, c, f, rfl, la, ei, hk, q⟩ := h
    refine ⟨_, (pss_cons (ps_set (i := 1) sc__law_above.nd rfl (.inl rfl) (pe_lst (pa_cons (pe_callB call_isE (by rfl) T.m_isinstance (by decide +kernel) (pa_cons (pv 0) (pa_cons (pe_glob (v := .ref T.a_RailError) (by rfl) T.g_RailError rfl) pa_nil))) (pa_cons (pe_callB call_isE (by rfl) T.m_isinstance (by decide +kernel) (pa_cons (pv 0) (pa_cons (pe_bltn (v := .ty "ValueError") (by rfl) T.m_ValueError (by decide +kernel) rfl) pa_nil))) (pa_cons (pe_callB call_isE (by rfl) T.m_isinstance (by decide +kernel) (pa_cons (pv 0) (pa_cons (pe_bltn (v := .ty "IndexError") (by rfl) T.m_IndexError (by decide +kernel) rfl) pa_nil))) (pa_cons (pe_callB call_isE (by rfl) T.m_isinstance (by decide +kernel) (pa_cons (pv 0) (pa_cons (pe_bltn (v := .ty "LookupError") (by rfl) T.m_LookupError (by decide +kernel) rfl) pa_nil))) pa_nil))))))
 (pss_one (ps_ret (pe_op op_cat (pv 1) (pe_lst (pa_cons (pe_callB call_isE (by rfl) T.m_isinstance (by decide +kernel) (pa_cons (pv 0) (pa_cons (pe_bltn (v := .ty "KeyError") (by rfl) T.m_KeyError (by decide +kernel) rfl) pa_nil))) pa_nil)))))), ?_⟩
    obtain ⟨d, ea, ed⟩ := la.ex
    have ask : ∀ (j : Nat) (u : Value), [Value.ref T.a_NoEngine, Value.ref T.a_NoYard, Value.ref T.a_NoText, Value.ref T.a_OwnWay, Value.ref T.a_TooMany, Value.ref T.a_TooLong, Value.ref T.a_Full, Value.ref T.a_NoColour, Value.ref T.a_Broken, Value.ref T.a_NoRow, Value.ref T.a_NoNumber, Value.ref T.a_NoRail, Value.ref T.a_NoStood, Value.ref T.a_RailError, Value.type "ValueError", Value.type "IndexError", Value.type "LookupError", Value.type "KeyError"][j]? = some u → PySem.W.kitOne K (.ref c.1) u = some (f j) := fun j u h => hk j u (by rw [T.asked_is]; exact h)
    try dsimp only
    refine r_seq (r_asg (r_lst (r_cons ⟨.ref a, rfl, a, c.1, d, .ref T.a_RailError, _, _, rfl, ea, ed, ei, .own _, ask 13 _ rfl, ?_⟩)))
    refine r_cons ⟨.ref a, rfl, a, c.1, d, .ty "ValueError", _, _, rfl, ea, ed, ei, .ty _, ask 14 _ rfl, ?_⟩
    refine r_cons ⟨.ref a, rfl, a, c.1, d, .ty "IndexError", _, _, rfl, ea, ed, ei, .ty _, ask 15 _ rfl, ?_⟩
    refine r_cons ⟨.ref a, rfl, a, c.1, d, .ty "LookupError", _, _, rfl, ea, ed, ei, .ty _, ask 16 _ rfl, ?_⟩
    refine r_nil ⟨by show 4 ≤ sizeLine; decide, fun p0 np0 => ?_⟩
    have t0 : Same H (upd H p0 (.lst [.bl (f 13), .bl (f 14), .bl (f 15), .bl (f 16)])) := same_new np0
    have h0 : (upd H p0 (.lst [.bl (f 13), .bl (f 14), .bl (f 15), .bl (f 16)])) p0 = some (.lst [.bl (f 13), .bl (f 14), .bl (f 15), .bl (f 16)]) := upd_same
    generalize upd H p0 (.lst [.bl (f 13), .bl (f 14), .bl (f 15), .bl (f 16)]) = K0 at t0 h0 ⊢
    have S0 := t0
    have k0 := h0
    refine r_nm ?_
    have ea0 := S0 _ _ ea
    have ed0 : ∀ dd, d = some dd → ∃ fs, K0 dd = some (exd dd fs) := fun dd e => (ed dd e).elim fun fs h => ⟨fs, S0 _ _ h⟩
    try dsimp only
    refine r_ret (r_op (r_v (v := .ref p0) rfl (r_lst (r_cons ⟨.ref a, rfl, a, c.1, d, .ty "KeyError", _, _, rfl, ea0, ed0, ei, .ty _, ask 17 _ rfl, ?_⟩))))
    refine r_nil ⟨by show 1 ≤ sizeLine; decide, fun p1 np1 => ?_⟩
    have t1 : Same K0 (upd K0 p1 (.lst [.bl (f 17)])) := same_new np1
    have h1 : (upd K0 p1 (.lst [.bl (f 17)])) p1 = some (.lst [.bl (f 17)]) := upd_same
    generalize upd K0 p1 (.lst [.bl (f 17)]) = K1 at t1 h1 ⊢
    refine ⟨p0, p1, _, _, rfl, rfl, t1 _ _ k0, h1, by show 4 + 1 ≤ sizeLine; decide, fun q1 nq1 => ?_⟩
    have u1 : Same K1 (upd K1 q1 (.lst ([.bl (f 13), .bl (f 14), .bl (f 15), .bl (f 16)] ++ [.bl (f 17)]))) := same_new nq1
    have k1 : (upd K1 q1 (.lst ([.bl (f 13), .bl (f 14), .bl (f 15), .bl (f 16)] ++ [.bl (f 17)]))) q1 = some (.lst ([.bl (f 13), .bl (f 14), .bl (f 15), .bl (f 16)] ++ [.bl (f 17)])) := upd_same
    generalize upd K1 q1 (.lst ([.bl (f 13), .bl (f 14), .bl (f 15), .bl (f 16)] ++ [.bl (f 17)])) = M1 at u1 k1 ⊢
    have S1 := (S0.trans t1).trans u1
    exact q q1 _ S1 k1
end
/-! ### small things, whose repr is short -/
structure Sm (d : PyData) : Prop where
  sh : d.showable = true
  nd : d.hasDict = false
  dp : d.depth ≤ 2
  lv : d.leavesShort 13 = true
  bk : d.bulk ≤ 100
section
variable {P : Program} {w : World} {K : PySem.W.Frag} {mg : Str → Option Value} {base : Heap}
theorem sm_int {i : Int} (h : i.natAbs < 10 ^ 12) : Sm (.int i) := by
  refine ⟨?_, rfl, by simp [PyData.depth], ?_, by simp [PyData.bulk]⟩
  · rw [PyData.showable]
    refine decide_eq_true ?_
    by_cases z : i.natAbs = 0
    · rw [z]
      decide
    · have h1 := (Nat.log2_lt z (k := 40)).mpr (Nat.lt_of_lt_of_le h (by decide))
      omega
  · rw [PyData.leavesShort]
    exact decide_eq_true (PyData.shown_int_le h)
theorem sm_str {cs : List Nat} (hl : cs.length ≤ 12) (hc : ∀ c ∈ cs, c < 200) : Sm (.str (SX.S cs)) := by
  refine ⟨rfl, rfl, by simp [PyData.depth], ?_, ?_⟩
  · rw [PyData.leavesShort, List.all_eq_true]
    intro c h
    exact decide_eq_true (Nat.lt_trans (hc c h) (by decide))
  · rw [PyData.bulk]
    show cs.toArray.size ≤ 100
    rw [List.size_toArray]
    omega
theorem sm_two {d e : PyData} (h1 : Sm d) (h2 : Sm e) (hd : d.depth = 0) (he : e.depth = 0) (b1 : d.bulk ≤ 12) (b2 : e.bulk ≤ 12) : Sm (.tuple [d, e]) := by
  refine ⟨?_, ?_, ?_, ?_, ?_⟩
  · rw [PyData.showable, PyData.showableAll, PyData.showableAll, PyData.showableAll, h1.sh, h2.sh]
    rfl
  · rw [PyData.hasDict, PyData.hasDictAll, PyData.hasDictAll, PyData.hasDictAll, h1.nd, h2.nd]
    rfl
  · rw [PyData.depth, PyData.depthAll, PyData.depthAll, PyData.depthAll, hd, he]
    decide
  · rw [PyData.leavesShort, PyData.leavesShortAll, PyData.leavesShortAll, PyData.leavesShortAll, h1.lv, h2.lv]
    rfl
  · rw [PyData.bulk, PyData.bulkAll, PyData.bulkAll, PyData.bulkAll]
    omega
theorem sm_list : ∀ {ds : List PyData}, (∀ d ∈ ds, Sm d) → PyData.showableAll ds = true ∧ PyData.hasDictAll ds = false ∧ PyData.depthAll ds ≤ 3 ∧ PyData.leavesShortAll 13 ds = true ∧ PyData.bulkAll ds ≤ 101 * ds.length
  | [], _ => ⟨rfl, rfl, by simp [PyData.depthAll], rfl, by simp [PyData.bulkAll]⟩
  | d :: ds, h => by
    obtain ⟨h1, h2, h3, h4, h5⟩ := sm_list fun q hq => h q (List.mem_cons_of_mem _ hq)
    have s := h d List.mem_cons_self
    have := s.dp
    have := s.bk
    refine ⟨?_, ?_, ?_, ?_, ?_⟩
    · rw [PyData.showableAll, s.sh, h1]
      rfl
    · rw [PyData.hasDictAll, s.nd, h2]
      rfl
    · rw [PyData.depthAll]
      omega
    · rw [PyData.leavesShortAll, s.lv, h4]
      rfl
    · rw [PyData.bulkAll, List.length_cons]
      omega
theorem sm_shown {ds : List PyData} (h : ∀ d ∈ ds, Sm d) (hl : ds.length ≤ 100) : (PyData.list ds).showable = true ∧ (PyData.list ds).hasDict = false ∧ (PyData.list ds).depth + 1 ≤ 64 ∧ (PyData.list ds).shown.length ≤ sizeLine := by
  obtain ⟨h1, h2, h3, h4, h5⟩ := sm_list h
  refine ⟨by rw [PyData.showable]; exact h1, by rw [PyData.hasDict]; exact h2, by rw [PyData.depth]; omega, PyData.shown_fits_bulk (B := 13) (by decide) (by decide) (by rw [PyData.leavesShort]; exact h4) ?_⟩
  rw [PyData.bulk]
  have : 101 * ds.length ≤ 101 * 100 := Nat.mul_le_mul_left _ hl
  have : (101 * 100 : Nat) ≤ 2 ^ 20 := by decide
  omega
theorem join_none : ∀ cs : List Nat, TL.joinL [] (cs.map fun c => [c]) = cs
  | [] => rfl
  | [c] => rfl
  | c :: d :: cs => by
    have ih := join_none (d :: cs)
    show [c] ++ ([] ++ TL.joinL [] ((d :: cs).map fun c => [c])) = _
    rw [ih]
    rfl
theorem join_chars (cs : List Nat) : Txt.join "" (cs.map fun c => (⟨#[c]⟩ : Str)) = SX.S cs := by
  have h := SX.join_S [] (cs.map fun c => [c])
  rw [join_none, List.map_map] at h
  exact h
theorem pick9 {r : Int} (h0 : 0 ≤ r) (h1 : r < 9) : ∃ c, atI ("abz XY09-" : Str).cps.toList r = some c ∧ c < 200 := by
  have h : r = 0 ∨ r = 1 ∨ r = 2 ∨ r = 3 ∨ r = 4 ∨ r = 5 ∨ r = 6 ∨ r = 7 ∨ r = 8 := by omega
  rcases h with rfl | rfl | rfl | rfl | rfl | rfl | rfl | rfl | rfl
  · exact ⟨97, by decide +kernel, by decide⟩
  · exact ⟨98, by decide +kernel, by decide⟩
  · exact ⟨122, by decide +kernel, by decide⟩
  · exact ⟨32, by decide +kernel, by decide⟩
  · exact ⟨88, by decide +kernel, by decide⟩
  · exact ⟨89, by decide +kernel, by decide⟩
  · exact ⟨48, by decide +kernel, by decide⟩
  · exact ⟨57, by decide +kernel, by decide⟩
  · exact ⟨45, by decide +kernel, by decide⟩
def spThing (K : PySem.W.Frag) : Sp := fun vs H Q _ => ∃ b : Addr, vs = [.ref b] ∧ Box H b ∧ ∀ v d H', But b H H' → Box H' b → DT K H' v d → Sm d → Q v H'
theorem box_ne {H : Hp} {b p : Addr} (h : Box H b) (n : H p = none) : p ≠ b := fun z => by
  obtain ⟨i, s, c, h⟩ := h
  rw [z, h] at n
  cases n
theorem at_lt {ds : List PyData} {r : Int} (h0 : 0 ≤ r) (h1 : r < (ds.length : Int)) : ∃ d, atI ds r = some d ∧ d ∈ ds := by
  obtain ⟨j, rfl⟩ := Int.eq_ofNat_of_zero_le h0
  have hj : j < ds.length := by omega
  exact ⟨ds[j], atI_nat (List.getElem?_eq_getElem hj), List.getElem_mem hj⟩
theorem ok__law_thing (T : Txt K w mg) : FnOk P w K mg base CX0 2 T.f__law_thing T.fd__law_thing ["_law_box_here"] (spThing K) := by
  refine T.F__law_thing.ok sc__law_thing (fun vs H Q E h => ?_) (fun cdv A outer s H vs Q E hr h => ?_)
  · obtain ⟨b, rfl, _⟩ := h
    rfl
  · obtain ⟨b, rfl, hb, q⟩ := h
    refine ⟨_, (pss_cons (ps_set (i := 1) sc__law_thing.nd rfl (.inl rfl) (pe_join pe_str (pe_lc (own := [("_law_j", 2)]) (g := gName 2) (by rfl) sc__law_thing.nd (pi_range1 (by rfl) T.m_range (pa_cons (pe_call (ok__law_take T) (hr.mono (by decide)) (by rfl) T.g__law_take T.F__law_take.kp T.b__law_take .nil pass0 (pa_cons (pv 0) (pa_cons pe_int pa_nil))) pa_nil)) (blkOk_by (own := [("_law_j", 2)]) (N := N__law_thing) (sc := defScope s__law_thing) (by decide +kernel)) (fun _ _ _ _ _ => pg_name (i := 2) sc__law_thing.nd rfl (.inl rfl) (.inr rfl)) (fun _ _ _ _ _ => pts_nil) (fun _ _ _ _ _ => (pe_ix ix_str pe_str (pe_call (ok__law_take T) (hr.mono (by decide)) (by rfl) T.g__law_take T.F__law_take.kp T.b__law_take .nil pass0 (pa_cons (pv 0) (pa_cons pe_int pa_nil))) (fun _ _ => rfl))))))
 (pss_one (ps_ret (pe_ix ix_list (pe_lst (pa_cons (pv 1) (pa_cons (pe_op op_sub (pe_call (ok__law_take T) (hr.mono (by decide)) (by rfl) T.g__law_take T.F__law_take.kp T.b__law_take .nil pass0 (pa_cons (pv 0) (pa_cons (pe_op op_pow pe_int pe_int) pa_nil))) (pe_op op_pow pe_int pe_int)) (pa_cons (pe_tup (pa_cons (pv 1) (pa_cons pe_int pa_nil))) (pa_cons pe_non (pa_cons pe_int (pa_cons pe_str (pa_cons pe_bl pa_nil)))))))) (pe_call (ok__law_take T) (hr.mono (by decide)) (by rfl) T.g__law_take T.F__law_take.kp T.b__law_take .nil pass0 (pa_cons (pv 0) (pa_cons pe_int pa_nil))) (fun _ _ => rfl))))), ?_⟩
    refine ⟨⟨_, rfl⟩, .ref b, rfl, b, 13, rfl, hb, by decide, by decide, fun n H1 n0 n1 e1 hb1 => ⟨n, rfl, by omega, by omega, fun D nD => lc_range (lo := 0) (n := n.toNat) (fun i H' => But b H1 H' ∧ Box H' b ∧ ∃ cs : List Nat, cs.length = i ∧ (∀ c ∈ cs, c < 200) ∧ H' D = some (.lst (cs.map fun c => V.str ⟨#[c]⟩))) ?_ (fun i H2 hi hP => ?_) (fun H2 hP => ?_)⟩⟩
    · exact ⟨but_same (same_new nD), hb1.same (same_new nD), [], rfl, fun c hc => (nomatch hc), upd_same⟩
    · obtain ⟨bt, bx, cs, lc, hc, hD⟩ := hP
      refine ⟨rfl, .ref b, rfl, b, 9, rfl, bx, by decide, by decide, fun r H3 r0 r1 e3 hb3 => ?_⟩
      obtain ⟨c, hc9, c2⟩ := pick9 r0 r1
      have nb : D ≠ b := box_ne hb1 nD
      refine ⟨_, r, c, rfl, rfl, by decide, hc9, _, e3 _ _ nb hD, small1000 (by rw [List.length_map]; omega), ?_, ?_, cs ++ [c], by rw [List.length_append, lc]; rfl, ?_, ?_⟩
      · intro a o na h
        by_cases z : a = D
        · subst z
          rw [nD] at h
          cases h
        · rw [upd_ne z]
          exact e3 _ _ na (bt _ _ na h)
      · obtain ⟨i1, i2, i3, h0⟩ := hb3
        exact ⟨i1, i2, i3, by rw [upd_ne nb.symm]; exact h0⟩
      · intro z hz
        rcases List.mem_append.mp hz with hz | hz
        · exact hc z hz
        · cases List.mem_singleton.mp hz
          exact c2
      · rw [upd_same, List.map_append]
        rfl
    · obtain ⟨bt, bx, cs, lc, hc, hD⟩ := hP
      have lcs : cs.length ≤ 12 := by omega
      refine ⟨"", D, cs.map fun c => ⟨#[c]⟩, rfl, rfl, .inl (SqL.of (by rw [List.map_map]; exact hD)), ?_, ?_⟩
      · have e : ∀ l : List Nat, ((l.map fun c => (⟨#[c]⟩ : Str)).map (·.length)).sum = l.length := fun l => by
          induction l with
          | nil => rfl
          | cons a l ih =>
            rw [List.map_cons, List.map_cons, List.sum_cons, ih, List.length_cons]
            show 1 + l.length = l.length + 1
            omega
        rw [e]
        show cs.length + _ * 0 ≤ 16777216
        omega
      rw [join_chars]
      have smS := sm_str lcs hc
      have bkS : (PyData.str (SX.S cs)).bulk ≤ 12 := by
        rw [PyData.bulk]
        show cs.toArray.size ≤ 12
        rw [List.size_toArray]
        omega
      refine ⟨.str (SX.S cs), rfl, .ref b, rfl, 10, 12, rfl, rfl, ⟨by decide, by decide, by decide⟩, b, _, rfl, bx, by decide, by decide, fun m H3 m0 m1 e3 hb3 => ?_⟩
      refine ⟨10, 6, rfl, rfl, ⟨by decide, by decide, by decide⟩, m, _, rfl, rfl, .str (SX.S cs), rfl, by show 2 ≤ sizeLine; decide, fun t nt => ⟨by show 7 ≤ sizeLine; decide, fun p np => ?_⟩⟩
      have d3 : DT K (upd H3 t (.tup [.str (SX.S cs), .int 3])) (.ref t) (.tuple [.str (SX.S cs), .int 3]) := DT.new (.cons (.str _) (.cons (.int 3) .nil)) nt
      have st := same_new (o := HO.tup [.str (SX.S cs), .int 3]) nt
      generalize upd H3 t (.tup [.str (SX.S cs), .int 3]) = H4 at *
      have hp : (upd H4 p (.lst [.str (SX.S cs), .int (m - 10 ^ (6 : Int).toNat), .ref t, .non, .int 0, .str "", .bl true])) p = some (.lst [.str (SX.S cs), .int (m - 10 ^ (6 : Int).toNat), .ref t, .non, .int 0, .str "", .bl true]) := upd_same
      have sp := same_new (o := HO.lst [.str (SX.S cs), .int (m - 10 ^ (6 : Int).toNat), .ref t, .non, .int 0, .str "", .bl true]) np
      have hb4 := hb3.same st
      have npb := box_ne hb4 np
      have hb5 := hb4.same sp
      have d3' := d3.up (tk_same sp)
      refine ⟨.ref b, rfl, b, 7, rfl, hb5, by decide, by decide, fun r H6 r0 r1 e6 hb6 => ?_⟩
      obtain ⟨dn, hdn, hmn⟩ := at_lt (ds := [.str (SX.S cs), .int (m - 10 ^ (6 : Int).toNat), .tuple [.str (SX.S cs), .int 3], .none, .int 0, .str "", .bool true]) r0 r1
      obtain ⟨vn, hvn, dvn⟩ := (DTs.cons (K := K) (H := H6) (.str _) (.cons (.int _) (.cons (e6.up hb5 d3') (.cons .non (.cons (.int 0) (.cons (.str _) (.cons (.bl true) .nil))))))).at hdn
      refine ⟨p, _, r, vn, rfl, rfl, SqL.of (e6 _ _ npb hp), hvn, q vn dn H6 ?_ hb6 dvn ?_⟩
      · exact (e1.trans bt).trans ((e3.trans (but_same (st.trans sp))).trans e6)
      · have hm : (m - 10 ^ (6 : Int).toNat).natAbs < 10 ^ 12 := by
          have m2 : m < 10 ^ (12 : Int).toNat := m1
          have c1 : (10 : Int) ^ (12 : Int).toNat = 1000000000000 := by decide
          have c2 : (10 : Int) ^ (6 : Int).toNat = 1000000 := by decide
          have c3 : (10 : Nat) ^ 12 = 1000000000000 := by decide
          rw [c1] at m2
          rw [c2, c3]
          omega
        simp only [List.mem_cons, List.not_mem_nil, or_false] at hmn
        rcases hmn with rfl | rfl | rfl | rfl | rfl | rfl | rfl
        · exact smS
        · exact sm_int hm
        · exact sm_two smS (sm_int (by decide)) (by simp [PyData.depth]) (by simp [PyData.depth]) bkS (by simp [PyData.bulk])
        · exact ⟨rfl, rfl, by simp [PyData.depth], rfl, by simp [PyData.bulk]⟩
        · exact sm_int (by decide)
        · exact sm_str (cs := []) (by decide) (fun c hc => (nomatch hc))
        · exact ⟨rfl, rfl, by simp [PyData.depth], rfl, by simp [PyData.bulk]⟩
end
/-! ### rows of flat values as data -/
theorem dts_of {K : PySem.W.Frag} {H : Hp} {α : Type} (f : α → V) (g : α → PyData) (h : ∀ a, DT K H (f a) (g a)) : ∀ l : List α, DTs K H (l.map f) (l.map g)
  | [] => .nil
  | a :: l => .cons (h a) (dts_of f g h l)
theorem flat_shaped : ∀ {ds : List PyData}, (∀ d ∈ ds, d.canLay0 = true ∧ d.depth = 0) → SeqAt.shaped (.list ds) = true := by
  intro ds h
  have h1 : ∀ {ds : List PyData}, (∀ d ∈ ds, d.canLay0 = true ∧ d.depth = 0) → PyData.canLayAll0 ds = true ∧ PyData.depthAll ds ≤ 1 := by
    intro ds
    induction ds with
    | nil => intro _; exact ⟨rfl, by simp [PyData.depthAll]⟩
    | cons d ds ih =>
      intro h
      have i := ih fun q hq => h q (List.mem_cons_of_mem _ hq)
      have j := h d List.mem_cons_self
      refine ⟨by rw [PyData.canLayAll0, j.1, i.1]; rfl, ?_⟩
      rw [PyData.depthAll, j.2]
      omega
  have i := h1 h
  unfold SeqAt.shaped
  rw [PyData.canLay0, i.1, PyData.depth, decide_eq_true (by omega)]
  rfl
theorem nil_shaped : SeqAt.shaped (.list []) = true := flat_shaped (fun d h => (nomatch h))
/-- a loop over a list with its numbers -/
theorem for_enum {K : PySem.W.Frag} {a : Addr} {xs : List V} {g : TG} {tb : TS} {D : Ends} {σ : L2.St} {H : Hp} (Pv : Nat → L2.St → Hp → Prop) (h0 : Pv 0 σ H) (hl : ∀ i σ H, Pv i σ H → SqL K H a xs)
    (hs : ∀ i x σ H p, xs[i]? = some x → Pv i σ H → H p = none → g (.ref p) σ (upd H p (.tup [.int (i : Int), x])) fun σ2 H2 => tb { D with nx := Pv (i + 1), ct := Pv (i + 1), bk := D.nx } σ2 H2) (hd : ∀ σ H, Pv xs.length σ H → D.nx σ H) :
    ∃ W : Nat → Nat → L2.St → Hp → Prop, (∃ m, W 0 m σ H) ∧ ∀ i m σ H, W i m σ H →
      ((Ite K a).stop i H ∧ D.nx σ H) ∨ ((Ite K a).go i H ∧ ∃ N : L2.St → Hp → Prop, (∀ σ' H', N σ' H' → ∃ m', m' < m ∧ W (i + 1) m' σ' H') ∧ ∀ v H', (Ite K a).yld i H v H' → g v σ H' fun σ2 H2 => tb { D with nx := N, ct := N, bk := D.nx } σ2 H2) := by
  refine ⟨fun i m σ H => m = xs.length - i ∧ i ≤ xs.length ∧ Pv i σ H, ⟨xs.length, by simp, Nat.zero_le _, h0⟩, ?_⟩
  rintro i m σ H ⟨rfl, hi, p⟩
  have q := hl i σ H p
  by_cases hlt : i < xs.length
  · refine .inr ⟨⟨xs, xs[i], q, by simp [hlt]⟩, Pv (i + 1), fun σ' H' p' => ⟨xs.length - (i + 1), by omega, rfl, hlt, p'⟩, fun v H' y => ?_⟩
    obtain ⟨pp, x, e1, e2, e3, e4⟩ := y
    subst e1 e3
    exact hs i x σ H pp (e4 xs q) p e2
  · have e : i = xs.length := by omega
    subst e
    exact .inl ⟨⟨xs, q, Nat.le_refl _⟩, hd σ H p⟩
def tbl (n j : Nat) : Bool := if j < 13 then decide (n = j) else if j < 15 then decide (n < 10) else if j = 15 then decide (n = 10 ∨ n = 11) else if j = 16 then decide (9 < n) else false
theorem kit_of {f : Value → Option Bool} {as : List Value} {n : Nat} (h : as.map f = ((List.range 18).map (tbl n)).map some) {j : Nat} {u : Value} (e : as[j]? = some u) : f u = some (tbl n j) := by
  have h1 : (as.map f)[j]? = some (f u) := by
    rw [List.getElem?_map, e]
    rfl
  rw [h, List.getElem?_map, List.getElem?_map] at h1
  by_cases hj : j < 18
  · rw [List.getElem?_range hj] at h1
    exact (Option.some.inj h1).symm
  · rw [List.getElem?_eq_none (by rw [List.length_range]; omega)] at h1
    cases h1
section
variable {P : Program} {w : World} {K : PySem.W.Frag} {mg : Str → Option Value} {base : Heap}
theorem lot_facts (T : Txt K w mg) (v1 v2 : V) : ∀ {n : Nat} {c : Addr × Option (List (Str × V))}, (lotC T v1 v2)[n]? = some c → ExI K c.1 ∧ ∀ j u, T.asked[j]? = some u → PySem.W.kitOne K (.ref c.1) u = some (tbl n j)
  | 0, c, h => by
    cases h
    exact ⟨T.ei_NoEngine, fun j u e => kit_of (T.kit_NoEngine.trans (by decide +kernel)) e⟩
  | 1, c, h => by
    cases h
    exact ⟨T.ei_NoYard, fun j u e => kit_of (T.kit_NoYard.trans (by decide +kernel)) e⟩
  | 2, c, h => by
    cases h
    exact ⟨T.ei_NoText, fun j u e => kit_of (T.kit_NoText.trans (by decide +kernel)) e⟩
  | 3, c, h => by
    cases h
    exact ⟨T.ei_OwnWay, fun j u e => kit_of (T.kit_OwnWay.trans (by decide +kernel)) e⟩
  | 4, c, h => by
    cases h
    exact ⟨T.ei_TooMany, fun j u e => kit_of (T.kit_TooMany.trans (by decide +kernel)) e⟩
  | 5, c, h => by
    cases h
    exact ⟨T.ei_TooLong, fun j u e => kit_of (T.kit_TooLong.trans (by decide +kernel)) e⟩
  | 6, c, h => by
    cases h
    exact ⟨T.ei_Full, fun j u e => kit_of (T.kit_Full.trans (by decide +kernel)) e⟩
  | 7, c, h => by
    cases h
    exact ⟨T.ei_NoColour, fun j u e => kit_of (T.kit_NoColour.trans (by decide +kernel)) e⟩
  | 8, c, h => by
    cases h
    exact ⟨T.ei_Broken, fun j u e => kit_of (T.kit_Broken.trans (by decide +kernel)) e⟩
  | 9, c, h => by
    cases h
    exact ⟨T.ei_NoRow, fun j u e => kit_of (T.kit_NoRow.trans (by decide +kernel)) e⟩
  | 10, c, h => by
    cases h
    exact ⟨T.ei_NoNumber, fun j u e => kit_of (T.kit_NoNumber.trans (by decide +kernel)) e⟩
  | 11, c, h => by
    cases h
    exact ⟨T.ei_NoRail, fun j u e => kit_of (T.kit_NoRail.trans (by decide +kernel)) e⟩
  | 12, c, h => by
    cases h
    exact ⟨T.ei_NoStood, fun j u e => kit_of (T.kit_NoStood.trans (by decide +kernel)) e⟩
  | n + 13, c, h => by
    rw [List.getElem?_eq_none (by show 13 ≤ n + 13; omega)] at h
    cases h
theorem bl_shaped (bs : List Bool) : SeqAt.shaped (.list (bs.map PyData.bool)) = true := flat_shaped fun d hd => by
  obtain ⟨b, _, rfl⟩ := List.mem_map.mp hd
  exact ⟨rfl, by simp [PyData.depth]⟩
theorem bl_lay : ∀ bs : List Bool, PyData.canLayAll0 (bs.map PyData.bool) = true
  | [] => rfl
  | b :: bs => by
    rw [List.map_cons, PyData.canLayAll0, bl_lay bs]
    rfl
theorem bl_dp {H : Hp} {p : Addr} {bs : List Bool} (h : H p = some (.lst (bs.map V.bl))) : Dp K H (.ref p) (.list (bs.map PyData.bool)) := .lst (SqL.of h) (dts_of V.bl PyData.bool (fun b => .bl b) bs).dp
theorem bl_eqv (bs : List Bool) : PyData.eqv (.list (bs.map PyData.bool)) (.list (bs.map PyData.bool)) = true := SeqAt.eqv_refl _ (by rw [PyData.canLay0]; exact bl_lay bs)
theorem ok_law (T : Txt K w mg) {f : Addr} {fd : FuncData} (F : Fun K "law" "law" s_law f fd) : FnG P w K mg base 9 f fd ["_law_script"] (spLaw K) := by
  refine okG F sc_law (fun vs H Q E h => ?_) (fun cdv A outer s H vs Q E hr gd h => ?_)
  · obtain ⟨a, ns, rfl, _⟩ := h
    rfl
  · obtain ⟨a, ns, rfl, hS, hlen, q⟩ := h
    refine ⟨_, (pss_cons (ps_for PassesOwn.never rfl (pi_range1 (by rfl) T.m_range (pa_cons pe_int pa_nil)) (pg_name (i := 1) sc_law.nd rfl (.inl rfl))
 (pss_cons (ps_set (i := 2) sc_law.nd rfl (.inl rfl) (pe_call (ok__law_box T) (hr.mono (by decide)) (by rfl) T.g__law_box T.F__law_box.kp T.b__law_box .nil pass0 (pa_cons (pv 0) (pa_cons (pv 1) pa_nil))))
 (pss_cons (ps_par (i := 3) (j := 4) (by rfl) sc_law.nd rfl rfl (by decide) rfl rfl (pa_cons (pe_call (ok__law_thing T) (hr.mono (by decide)) (by rfl) T.g__law_thing T.F__law_thing.kp T.b__law_thing .nil pass0 (pa_cons (pv 2) pa_nil)) (pa_cons (pe_call (ok__law_thing T) (hr.mono (by decide)) (by rfl) T.g__law_thing T.F__law_thing.kp T.b__law_thing .nil pass0 (pa_cons (pv 2) pa_nil)) pa_nil)) (by rfl))
 (pss_cons (ps_set (i := 5) sc_law.nd rfl (.inl rfl) (pe_callB (call_reprD gd (hu65 hr)) (by rfl) T.m_repr (by decide +kernel) (pa_cons (pe_lst (pa_cons (pv 3) (pa_cons (pv 3) (pa_cons (pv 4) (pa_cons (pv 3) (pa_cons (pv 3) (pa_cons (pv 3) (pa_cons (pv 3) (pa_cons (pv 3) (pa_cons (pv 3) (pa_cons (pv 3) (pa_cons (pv 3) (pa_cons (pv 3) (pa_cons (pv 4) (pa_cons (pv 3) pa_nil))))))))))))))) pa_nil)))
 (pss_one (ps_for PassesOwn.never rfl (pi_tup (pe_tup (pa_cons (pe_call (ok__law_made T) (hr.mono (by decide)) (by rfl) T.g__law_made T.F__law_made.kp T.b__law_made .nil pass0 (pa_cons (pv 3) (pa_cons (pv 4) pa_nil))) (pa_cons (pe_call (ok__law_named T) (hr.mono (by decide)) (by rfl) T.g__law_named T.F__law_named.kp T.b__law_named .nil pass0 (pa_cons (pv 3) (pa_cons (pv 4) pa_nil))) pa_nil)))) (pg_name (i := 6) sc_law.nd rfl (.inl rfl))
 (pss_cons (ps_if (pt_cmpR op_ne (pe_callB (call_reprD gd (hu65 hr)) (by rfl) T.m_repr (by decide +kernel) (pa_cons (pe_call (ok__law_fields T) (hr.mono (by decide)) (by rfl) T.g__law_fields T.F__law_fields.kp T.b__law_fields .nil pass0 (pa_cons (pv 6) pa_nil)) pa_nil)) (pv 5) (nomark _))
 (pss_one (ps_ret pe_bl))
 pss_nil)
 (pss_one (ps_for PassesOwn.never rfl (pi_enum (by rfl) T.m_enumerate (pa_cons (pv 6) pa_nil)) (pg_tup rfl (pgs_cons (pg_name (i := 7) sc_law.nd rfl (.inr rfl)) (pgs_cons (pg_name (i := 8) sc_law.nd rfl (.inl rfl)) pgs_nil)))
 (pss_cons (ps_if (pt_cmpR (op_neD hr.units) (pe_call (ok__law_sorts T) (hr.mono (by decide)) (by rfl) T.g__law_sorts T.F__law_sorts.kp T.b__law_sorts .nil pass0 (pa_cons (pv 8) pa_nil)) (pe_lc (own := [("_law_j", 9)]) (g := gName 9) (by rfl) sc_law.nd (pi_range1 (by rfl) T.m_range (pa_cons pe_int pa_nil)) (blkOk_by (own := [("_law_j", 9)]) (N := N_law) (sc := defScope s_law) (by decide +kernel)) (fun _ _ _ _ _ => pg_name (i := 9) sc_law.nd rfl (.inl rfl) (.inr rfl)) (fun _ _ _ _ _ => pts_nil) (fun _ _ _ _ _ => (pe_cmpR op_eq (pv 7) (pv 9) (nomark _)))) (nomark _))
 (pss_one (ps_ret pe_bl))
 pss_nil)
 (pss_one (ps_if (pt_cmpR (op_neD hr.units) (pe_call (ok__law_above T) (hr.mono (by decide)) (by rfl) T.g__law_above T.F__law_above.kp T.b__law_above .nil pass0 (pa_cons (pv 8) pa_nil)) (pe_lst (pa_cons (pe_cmpR op_lt (pv 7) pe_int (nomark _)) (pa_cons (pe_cmpR op_lt (pv 7) pe_int (nomark _)) (pa_cons (pe_cmpR op_in_seq (pv 7) (pe_tup (pa_cons pe_int (pa_cons pe_int pa_nil))) (by with_unfolding_all rfl)) (pa_cons (pe_cmpR op_gt (pv 7) pe_int (nomark _)) (pa_cons pe_bl pa_nil)))))) (nomark _))
 (pss_one (ps_ret pe_bl))
 pss_nil))))))))))))
 (pss_one (ps_ret pe_bl))), ?_⟩
    refine ⟨2, rfl, by decide, by decide, for_range (lo := 0) (n := 2) (fun i σ H' => ∃ y1 y2 y3 y4 y5 y6 y7 y8 y9, σ = [some (.ref a), y1, y2, y3, y4, y5, y6, y7, y8, y9] ∧ SqL K H' a (ns.map V.int)) ⟨_, _, _, _, _, _, _, _, _, rfl, hS⟩ (fun i σ H' hi hP => ?_) (fun σ H' hP => q H')⟩
    obtain ⟨y1, y2, y3, y4, y5, y6, y7, y8, y9, rfl, hS'⟩ := hP
    refine ⟨.ref a, rfl, .int (0 + (i : Int)), rfl, a, ns, _, rfl, hS', by omega, by omega, fun b H1 nb s1 hb1 => ?_⟩
    refine ⟨.ref b, rfl, b, rfl, hb1, fun v1 d1 H2 e2 hb2 dv1 sm1 => ?_⟩
    refine ⟨.ref b, rfl, b, rfl, hb2, fun v2 d2 H3 e3 hb3 dv2 sm2 => ⟨_, _, rfl, ?_⟩⟩
    have dv1' := e3.up hb2 dv1
    have rowD : ∀ Hx, Tk H3 Hx → DTs K Hx [v1, v1, v2, v1, v1, v1, v1, v1, v1, v1, v1, v1, v2, v1] [d1, d1, d2, d1, d1, d1, d1, d1, d1, d1, d1, d1, d2, d1] := fun Hx tk =>
      have x1 := dv1'.up tk
      have x2 := dv2.up tk
      .cons x1 (.cons x1 (.cons x2 (.cons x1 (.cons x1 (.cons x1 (.cons x1 (.cons x1 (.cons x1 (.cons x1 (.cons x1 (.cons x1 (.cons x2 (.cons x1 .nil)))))))))))))
    obtain ⟨sh1, sh2, sh3, sh4⟩ := sm_shown (ds := [d1, d1, d2, d1, d1, d1, d1, d1, d1, d1, d1, d1, d2, d1]) (fun d hd => by
      simp only [List.mem_cons, List.not_mem_nil, or_false] at hd
      rcases hd with rfl | rfl | rfl | rfl | rfl | rfl | rfl | rfl | rfl | rfl | rfl | rfl | rfl | rfl <;> first | exact sm1 | exact sm2) (by show 14 ≤ 100; decide)
    refine ⟨v1, rfl, v1, rfl, v2, rfl, v1, rfl, v1, rfl, v1, rfl, v1, rfl, v1, rfl, v1, rfl, v1, rfl, v1, rfl, v1, rfl, v2, rfl, v1, rfl, by show 14 ≤ sizeLine; decide, fun p np => ?_⟩
    have sp := same_new (o := HO.lst [v1, v1, v2, v1, v1, v1, v1, v1, v1, v1, v1, v1, v2, v1]) np
    refine ⟨p, _, rfl, .lst (SqL.of upd_same) (rowD _ (tk_same sp)).dp, sh1, sh2, sh3, sh4, ?_⟩
    have hS3 : SqL K H3 a (ns.map V.int) := SqL_but hS' nb s1 (e2.trans e3)
    have hS4 := sp.seq hS3
    have rowD4 : ∀ Hx, Same (upd H3 p (.lst [v1, v1, v2, v1, v1, v1, v1, v1, v1, v1, v1, v1, v2, v1])) Hx → DTs K Hx [v1, v1, v2, v1, v1, v1, v1, v1, v1, v1, v1, v1, v2, v1] [d1, d1, d2, d1, d1, d1, d1, d1, d1, d1, d1, d1, d2, d1] := fun Hx ss => rowD Hx (tk_same (sp.trans ss))
    generalize upd H3 p (.lst [v1, v1, v2, v1, v1, v1, v1, v1, v1, v1, v1, v1, v2, v1]) = H4 at *
    -- the two lots
    refine ⟨v1, rfl, v2, rfl, v1, v2, rfl, fun pA LA HA sA hA lotA => ?_⟩
    refine ⟨v1, rfl, v2, rfl, v1, v2, rfl, fun pB LB HB sB hB lotB => ⟨by show 2 ≤ sizeLine; decide, fun t nt => ⟨t, rfl, ⟨_, SqT.of upd_same⟩, ?_⟩⟩⟩
    have st := same_new (o := HO.tup [.ref pA, .ref pB]) nt
    have s4t := (sA.trans sB).trans st
    have both : ∀ {j : Nat} {x : V} {Hx : Hp}, ([.ref pA, .ref pB] : List V)[j]? = some x → Same (upd HB t (.tup [.ref pA, .ref pB])) Hx → ∃ pL L, x = .ref pL ∧ Hx pL = some (.lst (L.map V.ref)) ∧ LotsAt Hx L (lotC T v1 v2) := fun {j x Hx} hx ss => by
      rcases j with _ | _ | j
      · cases hx
        exact ⟨pA, LA, rfl, ss _ _ (st _ _ (sB _ _ hA)), lotA.up ((sB.trans st).trans ss)⟩
      · cases hx
        exact ⟨pB, LB, rfl, ss _ _ (st _ _ hB), lotB.up (st.trans ss)⟩
      · simp at hx
    have ht : (upd HB t (.tup [.ref pA, .ref pB])) t = some (.tup [.ref pA, .ref pB]) := upd_same
    generalize upd HB t (.tup [.ref pA, .ref pB]) = HC at *
    refine for_tup (xs := [.ref pA, .ref pB]) (fun j σ H' => ∃ y6 y7 y8 y9, σ = [some (.ref a), some (.int (0 + (i : Int))), some (.ref b), some v1, some v2, some (.str (PyData.list [d1, d1, d2, d1, d1, d1, d1, d1, d1, d1, d1, d1, d2, d1]).shown), y6, y7, y8, y9] ∧ Same HC H') ⟨_, _, _, _, rfl, Same.refl _⟩ (fun j σ H' _ hP => ?_) (fun j x σ H' hx hP => ?_) (fun σ H' hP => ?_)
    · obtain ⟨y6, y7, y8, y9, rfl, sm⟩ := hP
      exact SqT.of (sm _ _ ht)
    · obtain ⟨y6, y7, y8, y9, rfl, sm⟩ := hP
      obtain ⟨pL, L, rfl, hpL, hL⟩ := both hx sm
      refine ⟨.ref pL, rfl, pL, L, v1, v2, rfl, hpL, hL, fun p5 H5 s5 h5 => ?_⟩
      refine ⟨p5, _, rfl, .lst (SqL.of h5) (rowD4 H5 ((s4t.trans sm).trans s5)).dp, sh1, sh2, sh3, sh4, .str _, rfl, rfl, _, rfl, iteNS rfl ?_⟩
      have hpL5 := s5 _ _ hpL
      refine ⟨.ref pL, rfl, pL, _, rfl, SqL.of hpL5, for_enum (xs := L.map V.ref) (fun n σ H' => ∃ y7 y8 y9, σ = [some (.ref a), some (.int (0 + (i : Int))), some (.ref b), some v1, some v2, some (.str (PyData.list [d1, d1, d2, d1, d1, d1, d1, d1, d1, d1, d1, d1, d2, d1]).shown), some (.ref pL), y7, y8, y9] ∧ Same H5 H') ⟨_, _, _, rfl, Same.refl _⟩ (fun n σ H6 hP => ?_) (fun n x σ H6 pp hx hP npp => ?_) (fun σ H6 hP => ?_)⟩
      · obtain ⟨y7, y8, y9, rfl, s6⟩ := hP
        exact SqL.of (s6 _ _ hpL5)
      · obtain ⟨y7, y8, y9, rfl, s6⟩ := hP
        rw [List.getElem?_map] at hx
        obtain ⟨a', ha', rfl⟩ : ∃ a', L[n]? = some a' ∧ V.ref a' = x := by
          cases z : L[n]? with
          | none =>
            rw [z] at hx
            cases hx
          | some a' =>
            rw [z] at hx
            exact ⟨a', rfl, Option.some.inj hx⟩
        obtain ⟨c, hc, la⟩ := hL.get ha'
        obtain ⟨ei, hk⟩ := lot_facts T v1 v2 hc
        have spp := same_new (o := HO.tup [.int (n : Int), .ref a']) npp
        have la6 := la.up ((s5.trans s6).trans spp)
        refine ⟨pp, _, rfl, SqT.of upd_same, rfl, _, _, rfl, _, _, rfl, rfl, ?_⟩
        have s6p := s6.trans spp
        generalize upd H6 pp (.tup [.int (n : Int), .ref a']) = H7 at *
        refine ⟨.ref a', rfl, a', c, tbl n, rfl, la6, ei, hk, fun p8 H8 s8 h8 => ?_⟩
        have h8' : H8 p8 = some (.lst (((List.range 13).map (tbl n)).map V.bl)) := by
          rw [List.map_map]
          exact h8
        have e13 : (List.range 13).map (tbl n) = (List.range 13).map fun j => decide (n = j) := List.map_congr_left fun j hj => by
          rw [List.mem_range] at hj
          unfold tbl
          rw [if_pos hj]
        rw [e13] at h8'
        refine ⟨13, rfl, by decide, by decide, fun D nD => lc_range (lo := 0) (n := 13) (fun j H' => Same H8 H' ∧ H' D = some (.lst (((List.range j).map fun j => decide (n = j)).map V.bl))) ⟨same_new nD, upd_same⟩ (fun j H' hj hP => ?_) (fun H' hP => ?_)⟩
        · obtain ⟨sj, hD⟩ := hP
          refine ⟨rfl, .int (n : Int), rfl, .int (0 + (j : Int)), rfl, rfl, _, hD, ?_, fun b' o h => ?_, ?_⟩
          · rw [List.length_map, List.length_map, List.length_range]
            exact small1000 (by omega)
          · rw [upd_ne (ne_of_none h nD)]
            exact sj _ _ h
          · have ed : decide (V.int (n : Int) = V.int (0 + (j : Int))) = decide (n = j) := by
              by_cases z : n = j
              · rw [decide_eq_true z, decide_eq_true (by rw [z, Int.zero_add])]
              · rw [decide_eq_false z, decide_eq_false (fun y => z (by have := V.int.inj y; omega))]
            rw [upd_same, ed, List.range_succ, List.map_append, List.map_append]
            rfl
        · obtain ⟨sj, hD⟩ := hP
          refine ⟨_, _, bl_dp (sj _ _ h8'), bl_dp hD, bl_shaped _, bl_shaped _, _, rfl, iteNe (bl_eqv _) ?_⟩
          have s78 := s8.trans sj
          have la9 := la6.up s78
          refine ⟨.ref a', rfl, a', c, tbl n, rfl, la9, ei, hk, fun p9 H9 s9 h9 => ?_⟩
          refine ⟨.int (n : Int), rfl, (n : Int), 10, rfl, rfl, .int (n : Int), rfl, (n : Int), 10, rfl, rfl, .int (n : Int), rfl, by show 2 ≤ sizeLine; decide, fun t3 nt3 => ⟨t3, _, rfl, .inr (SqT.of upd_same), rfl, rfl, .int (n : Int), rfl, (n : Int), 9, rfl, rfl, by show 5 ≤ sizeLine; decide, fun p10 np10 => ?_⟩⟩
          have s10 := (same_new (o := HO.tup [.int 10, .int 11]) nt3).trans (same_new (o := HO.lst [.bl (decide ((n : Int) < 10)), .bl (decide ((n : Int) < 10)), .bl (inV (.int (n : Int)) [.int 10, .int 11]), .bl (decide (9 < (n : Int))), .bl false]) np10)
          have five : [tbl n 13, tbl n 14, tbl n 15, tbl n 16, tbl n 17] = [decide ((n : Int) < 10), decide ((n : Int) < 10), inV (.int (n : Int)) [.int 10, .int 11], decide (9 < (n : Int)), false] := by
            have i1 : decide ((n : Int) < 10) = decide (n < 10) := by
              by_cases z : n < 10
              · rw [decide_eq_true z, decide_eq_true (by omega)]
              · rw [decide_eq_false z, decide_eq_false (by omega)]
            have i2 : decide (9 < (n : Int)) = decide (9 < n) := by
              by_cases z : 9 < n
              · rw [decide_eq_true z, decide_eq_true (by omega)]
              · rw [decide_eq_false z, decide_eq_false (by omega)]
            have i3 : inV (.int (n : Int)) [.int 10, .int 11] = decide (n = 10 ∨ n = 11) := by
              by_cases z : n = 10
              · subst z
                rfl
              · by_cases z2 : n = 11
                · subst z2
                  rfl
                · have q1 : ¬ ((10 : Int) = (n : Int)) := by omega
                  have q2 : ¬ ((11 : Int) = (n : Int)) := by omega
                  rw [decide_eq_false (by omega)]
                  simp [inV, eqV, q1, q2]
            rw [i1, i2, i3]
            rfl
          have h9' : H9 p9 = some (.lst ([decide ((n : Int) < 10), decide ((n : Int) < 10), inV (.int (n : Int)) [.int 10, .int 11], decide (9 < (n : Int)), false].map V.bl)) := by
            rw [← five]
            exact h9
          refine ⟨_, _, bl_dp (s10 _ _ h9'), bl_dp (bs := [decide ((n : Int) < 10), decide ((n : Int) < 10), inV (.int (n : Int)) [.int 10, .int 11], decide (9 < (n : Int)), false]) upd_same, bl_shaped _, bl_shaped _, _, rfl, iteNe (bl_eqv _) ?_⟩
          exact ⟨_, _, _, rfl, ((s6p.trans s78).trans s9).trans s10⟩
      · obtain ⟨y7, y8, y9, rfl, s6⟩ := hP
        exact ⟨_, _, _, _, rfl, (sm.trans s5).trans s6⟩
    · obtain ⟨y6, y7, y8, y9, rfl, sm⟩ := hP
      exact ⟨_, _, _, _, _, _, _, _, _, rfl, (s4t.trans sm).seq hS4⟩
end
theorem all_mk {l : PySem.W.OpenLaw} {w : World} {K : PySem.W.Frag} {h : Heap} {mg : Str → Option Value} {fa : Addr} (X : K.In h) (G : h.Ns mainGlobals mg) (hfa : mg "law" = some (.ref fa))
    {od0 an0 : Option Addr} {sl0 : Array (Option Value)} {oc0 kV0 dc0 pm0 cd0 ct0 : Value} {f0 : Addr}
    {od1 an1 : Option Addr} {sl1 : Array (Option Value)} {oc1 kV1 dc1 pm1 cd1 ct1 : Value} {f1 : Addr}
    {od2 an2 : Option Addr} {sl2 : Array (Option Value)} {oc2 kV2 dc2 pm2 cd2 ct2 : Value} {f2 : Addr}
    {od3 an3 : Option Addr} {sl3 : Array (Option Value)} {oc3 kV3 dc3 pm3 cd3 ct3 : Value} {f3 : Addr}
    {od4 an4 : Option Addr} {sl4 : Array (Option Value)} {oc4 kV4 dc4 pm4 cd4 ct4 : Value} {f4 : Addr}
    {od5 an5 : Option Addr} {sl5 : Array (Option Value)} {oc5 kV5 dc5 pm5 cd5 ct5 : Value} {f5 : Addr}
    {od6 an6 : Option Addr} {sl6 : Array (Option Value)} {oc6 kV6 dc6 pm6 cd6 ct6 : Value} {f6 : Addr}
    {od7 an7 : Option Addr} {sl7 : Array (Option Value)} {oc7 kV7 dc7 pm7 cd7 ct7 : Value} {f7 : Addr}
    {od8 an8 : Option Addr} {sl8 : Array (Option Value)} {oc8 kV8 dc8 pm8 cd8 ct8 : Value} {f8 : Addr}
    {e1C : Addr}
    {e2C : Addr} {e2I : Addr} {e2od e2an : Option Addr} {e2sl : Array (Option Value)} {e2oc e2kV e2dc e2pm e2cd e2ct : Value}
    {e3C : Addr} {e3I : Addr} {e3od e3an : Option Addr} {e3sl : Array (Option Value)} {e3oc e3kV e3dc e3pm e3cd e3ct : Value}
    {e4C : Addr} {e4I : Addr} {e4od e4an : Option Addr} {e4sl : Array (Option Value)} {e4oc e4kV e4dc e4pm e4cd e4ct : Value}
    {e5C : Addr} {e5I : Addr} {e5od e5an : Option Addr} {e5sl : Array (Option Value)} {e5oc e5kV e5dc e5pm e5cd e5ct : Value}
    {e6C : Addr} {e6I : Addr} {e6od e6an : Option Addr} {e6sl : Array (Option Value)} {e6oc e6kV e6dc e6pm e6cd e6ct : Value}
    {e7C : Addr} {e7I : Addr} {e7od e7an : Option Addr} {e7sl : Array (Option Value)} {e7oc e7kV e7dc e7pm e7cd e7ct : Value}
    {e8C : Addr} {e8I : Addr} {e8od e8an : Option Addr} {e8sl : Array (Option Value)} {e8oc e8kV e8dc e8pm e8cd e8ct : Value}
    {e9C : Addr} {e9I : Addr} {e9od e9an : Option Addr} {e9sl : Array (Option Value)} {e9oc e9kV e9dc e9pm e9cd e9ct : Value}
    {e10C : Addr} {e10I : Addr} {e10od e10an : Option Addr} {e10sl : Array (Option Value)} {e10oc e10kV e10dc e10pm e10cd e10ct : Value}
    {e11C : Addr}
    {e12C : Addr} {e12I : Addr} {e12od e12an : Option Addr} {e12sl : Array (Option Value)} {e12oc e12kV e12dc e12pm e12cd e12ct : Value}
    {e13C : Addr} {e13I : Addr} {e13od e13an : Option Addr} {e13sl : Array (Option Value)} {e13oc e13kV e13dc e13pm e13cd e13ct : Value}
    {e14C : Addr} {e14I : Addr} {e14od e14an : Option Addr} {e14sl : Array (Option Value)} {e14oc e14kV e14dc e14pm e14cd e14ct : Value}
    (a0 : PySem.W.nsIn K mainGlobals "_law_box" = some (some (.ref f0)))
    (l0 : K.lookup f0 = some ⟨oc0, od0, .func (PySem.W.fnOf "_law_box" "_law_box" (defArgs s__law_box) (defBody s__law_box) (defScope s__law_box) .none kV0 dc0 pm0 an0 cd0 ct0), sl0⟩)
    (c0 : PySem.W.codeIn K cd0 "_law_box" = true)
    (k0 : PySem.W.keepIn K (.ref f0) = true)
    (a1 : PySem.W.nsIn K mainGlobals "_law_take" = some (some (.ref f1)))
    (l1 : K.lookup f1 = some ⟨oc1, od1, .func (PySem.W.fnOf "_law_take" "_law_take" (defArgs s__law_take) (defBody s__law_take) (defScope s__law_take) .none kV1 dc1 pm1 an1 cd1 ct1), sl1⟩)
    (c1 : PySem.W.codeIn K cd1 "_law_take" = true)
    (k1 : PySem.W.keepIn K (.ref f1) = true)
    (a2 : PySem.W.nsIn K mainGlobals "_law_thing" = some (some (.ref f2)))
    (l2 : K.lookup f2 = some ⟨oc2, od2, .func (PySem.W.fnOf "_law_thing" "_law_thing" (defArgs s__law_thing) (defBody s__law_thing) (defScope s__law_thing) .none kV2 dc2 pm2 an2 cd2 ct2), sl2⟩)
    (c2 : PySem.W.codeIn K cd2 "_law_thing" = true)
    (k2 : PySem.W.keepIn K (.ref f2) = true)
    (a3 : PySem.W.nsIn K mainGlobals "_law_made" = some (some (.ref f3)))
    (l3 : K.lookup f3 = some ⟨oc3, od3, .func (PySem.W.fnOf "_law_made" "_law_made" (defArgs s__law_made) (defBody s__law_made) (defScope s__law_made) .none kV3 dc3 pm3 an3 cd3 ct3), sl3⟩)
    (c3 : PySem.W.codeIn K cd3 "_law_made" = true)
    (k3 : PySem.W.keepIn K (.ref f3) = true)
    (a4 : PySem.W.nsIn K mainGlobals "_law_named" = some (some (.ref f4)))
    (l4 : K.lookup f4 = some ⟨oc4, od4, .func (PySem.W.fnOf "_law_named" "_law_named" (defArgs s__law_named) (defBody s__law_named) (defScope s__law_named) .none kV4 dc4 pm4 an4 cd4 ct4), sl4⟩)
    (c4 : PySem.W.codeIn K cd4 "_law_named" = true)
    (k4 : PySem.W.keepIn K (.ref f4) = true)
    (a5 : PySem.W.nsIn K mainGlobals "_law_fields" = some (some (.ref f5)))
    (l5 : K.lookup f5 = some ⟨oc5, od5, .func (PySem.W.fnOf "_law_fields" "_law_fields" (defArgs s__law_fields) (defBody s__law_fields) (defScope s__law_fields) .none kV5 dc5 pm5 an5 cd5 ct5), sl5⟩)
    (c5 : PySem.W.codeIn K cd5 "_law_fields" = true)
    (k5 : PySem.W.keepIn K (.ref f5) = true)
    (a6 : PySem.W.nsIn K mainGlobals "_law_sorts" = some (some (.ref f6)))
    (l6 : K.lookup f6 = some ⟨oc6, od6, .func (PySem.W.fnOf "_law_sorts" "_law_sorts" (defArgs s__law_sorts) (defBody s__law_sorts) (defScope s__law_sorts) .none kV6 dc6 pm6 an6 cd6 ct6), sl6⟩)
    (c6 : PySem.W.codeIn K cd6 "_law_sorts" = true)
    (k6 : PySem.W.keepIn K (.ref f6) = true)
    (a7 : PySem.W.nsIn K mainGlobals "_law_above" = some (some (.ref f7)))
    (l7 : K.lookup f7 = some ⟨oc7, od7, .func (PySem.W.fnOf "_law_above" "_law_above" (defArgs s__law_above) (defBody s__law_above) (defScope s__law_above) .none kV7 dc7 pm7 an7 cd7 ct7), sl7⟩)
    (c7 : PySem.W.codeIn K cd7 "_law_above" = true)
    (k7 : PySem.W.keepIn K (.ref f7) = true)
    (a8 : PySem.W.nsIn K mainGlobals "law" = some (some (.ref f8)))
    (l8 : K.lookup f8 = some ⟨oc8, od8, .func (PySem.W.fnOf "law" "law" (defArgs s_law) (defBody s_law) (defScope s_law) .none kV8 dc8 pm8 an8 cd8 ct8), sl8⟩)
    (c8 : PySem.W.codeIn K cd8 "law" = true)
    (k8 : PySem.W.keepIn K (.ref f8) = true)
    (z0 : PySem.W.nsIn K mainGlobals "IndexError" = some none)
    (z1 : PySem.W.nsIn K mainGlobals "KeyError" = some none)
    (z2 : PySem.W.nsIn K mainGlobals "LookupError" = some none)
    (z3 : PySem.W.nsIn K mainGlobals "ValueError" = some none)
    (z4 : PySem.W.nsIn K mainGlobals "enumerate" = some none)
    (z5 : PySem.W.nsIn K mainGlobals "int" = some none)
    (z6 : PySem.W.nsIn K mainGlobals "isinstance" = some none)
    (z7 : PySem.W.nsIn K mainGlobals "len" = some none)
    (z8 : PySem.W.nsIn K mainGlobals "range" = some none)
    (z9 : PySem.W.nsIn K mainGlobals "repr" = some none)
    (egt : PySem.W.specialIn K (.builtin "object.__class__") "__get__" = some (some (.builtin "getset_descriptor.__get__")))
    (etk : PySem.W.takesIn K (.builtin "object.__class__") = some true)
    (e1g : PySem.W.nsIn K mainGlobals "RailError" = some (some (.ref e1C)))
    (e2g : PySem.W.nsIn K mainGlobals "NoEngine" = some (some (.ref e2C)))
    (e2kC : PySem.W.keepIn K (.ref e2C) = true)
    (e2ga : PySem.W.findIn K (.ref e2C) "__getattribute__" = some (some (.builtin "BaseException.__getattribute__")))
    (e2gg : PySem.W.findIn K (.ref e2C) "__getattr__" = some none)
    (e2eC : PySem.W.subIn K (.ref e2C) (.type "BaseException") = some true)
    (e2cl : PySem.W.isClsIn K e2C = true)
    (e2cs : PySem.W.findIn K (.ref e2C) "__class__" = some (some (.builtin "object.__class__")))
    (e2mr : PySem.W.mroIn K e2C (.type "object") = some true)
    (e2q1 : PySem.W.excInitIn K e2C [.type "ValueError", .type "Exception", .type "BaseException", .type "object"] "ValueError.__new__" = true)
    (e2q2 : PySem.W.excOver K e2C [.type "ValueError", .type "Exception", .type "BaseException", .type "object"] = true)
    (e2sa : PySem.W.findIn K (.ref e2C) "__setattr__" = some (some (.builtin "object.__setattr__")))
    (e2in : PySem.W.findIn K (.ref e2C) "__init__" = some (some (.ref e2I)))
    (e2ti : PySem.W.typeIn K (.ref e2I) = some (.type "function"))
    (e2fl : K.lookup e2I = some ⟨e2oc, e2od, .func (PySem.W.fnOf "__init__" "NoEngine.__init__" (defArgs s_NoEngine) (defBody s_NoEngine) (defScope s_NoEngine) .none e2kV e2dc e2pm e2an e2cd e2ct), e2sl⟩)
    (e2fc : PySem.W.codeIn K e2cd "NoEngine.__init__" = true)
    (e2fk : PySem.W.keepIn K (.ref e2I) = true)
    (e2tC : PySem.W.typeIn K (.ref e2C) = some (.type "type"))
    (e2hC : PySem.W.hasDictIn K e2C = true)
    (e2nword : PySem.W.findIn K (.ref e2C) "word" = some none)
    (e3g : PySem.W.nsIn K mainGlobals "NoYard" = some (some (.ref e3C)))
    (e3kC : PySem.W.keepIn K (.ref e3C) = true)
    (e3ga : PySem.W.findIn K (.ref e3C) "__getattribute__" = some (some (.builtin "BaseException.__getattribute__")))
    (e3gg : PySem.W.findIn K (.ref e3C) "__getattr__" = some none)
    (e3eC : PySem.W.subIn K (.ref e3C) (.type "BaseException") = some true)
    (e3cl : PySem.W.isClsIn K e3C = true)
    (e3cs : PySem.W.findIn K (.ref e3C) "__class__" = some (some (.builtin "object.__class__")))
    (e3mr : PySem.W.mroIn K e3C (.type "object") = some true)
    (e3q1 : PySem.W.excInitIn K e3C [.type "ValueError", .type "Exception", .type "BaseException", .type "object"] "ValueError.__new__" = true)
    (e3q2 : PySem.W.excOver K e3C [.type "ValueError", .type "Exception", .type "BaseException", .type "object"] = true)
    (e3sa : PySem.W.findIn K (.ref e3C) "__setattr__" = some (some (.builtin "object.__setattr__")))
    (e3in : PySem.W.findIn K (.ref e3C) "__init__" = some (some (.ref e3I)))
    (e3ti : PySem.W.typeIn K (.ref e3I) = some (.type "function"))
    (e3fl : K.lookup e3I = some ⟨e3oc, e3od, .func (PySem.W.fnOf "__init__" "NoYard.__init__" (defArgs s_NoYard) (defBody s_NoYard) (defScope s_NoYard) .none e3kV e3dc e3pm e3an e3cd e3ct), e3sl⟩)
    (e3fc : PySem.W.codeIn K e3cd "NoYard.__init__" = true)
    (e3fk : PySem.W.keepIn K (.ref e3I) = true)
    (e3tC : PySem.W.typeIn K (.ref e3C) = some (.type "type"))
    (e3hC : PySem.W.hasDictIn K e3C = true)
    (e3nword : PySem.W.findIn K (.ref e3C) "word" = some none)
    (e3nnumber : PySem.W.findIn K (.ref e3C) "number" = some none)
    (e4g : PySem.W.nsIn K mainGlobals "NoText" = some (some (.ref e4C)))
    (e4kC : PySem.W.keepIn K (.ref e4C) = true)
    (e4ga : PySem.W.findIn K (.ref e4C) "__getattribute__" = some (some (.builtin "BaseException.__getattribute__")))
    (e4gg : PySem.W.findIn K (.ref e4C) "__getattr__" = some none)
    (e4eC : PySem.W.subIn K (.ref e4C) (.type "BaseException") = some true)
    (e4cl : PySem.W.isClsIn K e4C = true)
    (e4cs : PySem.W.findIn K (.ref e4C) "__class__" = some (some (.builtin "object.__class__")))
    (e4mr : PySem.W.mroIn K e4C (.type "object") = some true)
    (e4q1 : PySem.W.excInitIn K e4C [.type "ValueError", .type "Exception", .type "BaseException", .type "object"] "ValueError.__new__" = true)
    (e4q2 : PySem.W.excOver K e4C [.type "ValueError", .type "Exception", .type "BaseException", .type "object"] = true)
    (e4sa : PySem.W.findIn K (.ref e4C) "__setattr__" = some (some (.builtin "object.__setattr__")))
    (e4in : PySem.W.findIn K (.ref e4C) "__init__" = some (some (.ref e4I)))
    (e4ti : PySem.W.typeIn K (.ref e4I) = some (.type "function"))
    (e4fl : K.lookup e4I = some ⟨e4oc, e4od, .func (PySem.W.fnOf "__init__" "NoText.__init__" (defArgs s_NoText) (defBody s_NoText) (defScope s_NoText) .none e4kV e4dc e4pm e4an e4cd e4ct), e4sl⟩)
    (e4fc : PySem.W.codeIn K e4cd "NoText.__init__" = true)
    (e4fk : PySem.W.keepIn K (.ref e4I) = true)
    (e4tC : PySem.W.typeIn K (.ref e4C) = some (.type "type"))
    (e4hC : PySem.W.hasDictIn K e4C = true)
    (e4nat : PySem.W.findIn K (.ref e4C) "at" = some none)
    (e5g : PySem.W.nsIn K mainGlobals "OwnWay" = some (some (.ref e5C)))
    (e5kC : PySem.W.keepIn K (.ref e5C) = true)
    (e5ga : PySem.W.findIn K (.ref e5C) "__getattribute__" = some (some (.builtin "BaseException.__getattribute__")))
    (e5gg : PySem.W.findIn K (.ref e5C) "__getattr__" = some none)
    (e5eC : PySem.W.subIn K (.ref e5C) (.type "BaseException") = some true)
    (e5cl : PySem.W.isClsIn K e5C = true)
    (e5cs : PySem.W.findIn K (.ref e5C) "__class__" = some (some (.builtin "object.__class__")))
    (e5mr : PySem.W.mroIn K e5C (.type "object") = some true)
    (e5q1 : PySem.W.excInitIn K e5C [.type "ValueError", .type "Exception", .type "BaseException", .type "object"] "ValueError.__new__" = true)
    (e5q2 : PySem.W.excOver K e5C [.type "ValueError", .type "Exception", .type "BaseException", .type "object"] = true)
    (e5sa : PySem.W.findIn K (.ref e5C) "__setattr__" = some (some (.builtin "object.__setattr__")))
    (e5in : PySem.W.findIn K (.ref e5C) "__init__" = some (some (.ref e5I)))
    (e5ti : PySem.W.typeIn K (.ref e5I) = some (.type "function"))
    (e5fl : K.lookup e5I = some ⟨e5oc, e5od, .func (PySem.W.fnOf "__init__" "OwnWay.__init__" (defArgs s_OwnWay) (defBody s_OwnWay) (defScope s_OwnWay) .none e5kV e5dc e5pm e5an e5cd e5ct), e5sl⟩)
    (e5fc : PySem.W.codeIn K e5cd "OwnWay.__init__" = true)
    (e5fk : PySem.W.keepIn K (.ref e5I) = true)
    (e5tC : PySem.W.typeIn K (.ref e5C) = some (.type "type"))
    (e5hC : PySem.W.hasDictIn K e5C = true)
    (e5nnumber : PySem.W.findIn K (.ref e5C) "number" = some none)
    (e6g : PySem.W.nsIn K mainGlobals "TooMany" = some (some (.ref e6C)))
    (e6kC : PySem.W.keepIn K (.ref e6C) = true)
    (e6ga : PySem.W.findIn K (.ref e6C) "__getattribute__" = some (some (.builtin "BaseException.__getattribute__")))
    (e6gg : PySem.W.findIn K (.ref e6C) "__getattr__" = some none)
    (e6eC : PySem.W.subIn K (.ref e6C) (.type "BaseException") = some true)
    (e6cl : PySem.W.isClsIn K e6C = true)
    (e6cs : PySem.W.findIn K (.ref e6C) "__class__" = some (some (.builtin "object.__class__")))
    (e6mr : PySem.W.mroIn K e6C (.type "object") = some true)
    (e6q1 : PySem.W.excInitIn K e6C [.type "ValueError", .type "Exception", .type "BaseException", .type "object"] "ValueError.__new__" = true)
    (e6q2 : PySem.W.excOver K e6C [.type "ValueError", .type "Exception", .type "BaseException", .type "object"] = true)
    (e6sa : PySem.W.findIn K (.ref e6C) "__setattr__" = some (some (.builtin "object.__setattr__")))
    (e6in : PySem.W.findIn K (.ref e6C) "__init__" = some (some (.ref e6I)))
    (e6ti : PySem.W.typeIn K (.ref e6I) = some (.type "function"))
    (e6fl : K.lookup e6I = some ⟨e6oc, e6od, .func (PySem.W.fnOf "__init__" "TooMany.__init__" (defArgs s_TooMany) (defBody s_TooMany) (defScope s_TooMany) .none e6kV e6dc e6pm e6an e6cd e6ct), e6sl⟩)
    (e6fc : PySem.W.codeIn K e6cd "TooMany.__init__" = true)
    (e6fk : PySem.W.keepIn K (.ref e6I) = true)
    (e6tC : PySem.W.typeIn K (.ref e6C) = some (.type "type"))
    (e6hC : PySem.W.hasDictIn K e6C = true)
    (e6nmost : PySem.W.findIn K (.ref e6C) "most" = some none)
    (e7g : PySem.W.nsIn K mainGlobals "TooLong" = some (some (.ref e7C)))
    (e7kC : PySem.W.keepIn K (.ref e7C) = true)
    (e7ga : PySem.W.findIn K (.ref e7C) "__getattribute__" = some (some (.builtin "BaseException.__getattribute__")))
    (e7gg : PySem.W.findIn K (.ref e7C) "__getattr__" = some none)
    (e7eC : PySem.W.subIn K (.ref e7C) (.type "BaseException") = some true)
    (e7cl : PySem.W.isClsIn K e7C = true)
    (e7cs : PySem.W.findIn K (.ref e7C) "__class__" = some (some (.builtin "object.__class__")))
    (e7mr : PySem.W.mroIn K e7C (.type "object") = some true)
    (e7q1 : PySem.W.excInitIn K e7C [.type "ValueError", .type "Exception", .type "BaseException", .type "object"] "ValueError.__new__" = true)
    (e7q2 : PySem.W.excOver K e7C [.type "ValueError", .type "Exception", .type "BaseException", .type "object"] = true)
    (e7sa : PySem.W.findIn K (.ref e7C) "__setattr__" = some (some (.builtin "object.__setattr__")))
    (e7in : PySem.W.findIn K (.ref e7C) "__init__" = some (some (.ref e7I)))
    (e7ti : PySem.W.typeIn K (.ref e7I) = some (.type "function"))
    (e7fl : K.lookup e7I = some ⟨e7oc, e7od, .func (PySem.W.fnOf "__init__" "TooLong.__init__" (defArgs s_TooLong) (defBody s_TooLong) (defScope s_TooLong) .none e7kV e7dc e7pm e7an e7cd e7ct), e7sl⟩)
    (e7fc : PySem.W.codeIn K e7cd "TooLong.__init__" = true)
    (e7fk : PySem.W.keepIn K (.ref e7I) = true)
    (e7tC : PySem.W.typeIn K (.ref e7C) = some (.type "type"))
    (e7hC : PySem.W.hasDictIn K e7C = true)
    (e7nmost : PySem.W.findIn K (.ref e7C) "most" = some none)
    (e8g : PySem.W.nsIn K mainGlobals "Full" = some (some (.ref e8C)))
    (e8kC : PySem.W.keepIn K (.ref e8C) = true)
    (e8ga : PySem.W.findIn K (.ref e8C) "__getattribute__" = some (some (.builtin "BaseException.__getattribute__")))
    (e8gg : PySem.W.findIn K (.ref e8C) "__getattr__" = some none)
    (e8eC : PySem.W.subIn K (.ref e8C) (.type "BaseException") = some true)
    (e8cl : PySem.W.isClsIn K e8C = true)
    (e8cs : PySem.W.findIn K (.ref e8C) "__class__" = some (some (.builtin "object.__class__")))
    (e8mr : PySem.W.mroIn K e8C (.type "object") = some true)
    (e8q1 : PySem.W.excInitIn K e8C [.type "ValueError", .type "Exception", .type "BaseException", .type "object"] "ValueError.__new__" = true)
    (e8q2 : PySem.W.excOver K e8C [.type "ValueError", .type "Exception", .type "BaseException", .type "object"] = true)
    (e8sa : PySem.W.findIn K (.ref e8C) "__setattr__" = some (some (.builtin "object.__setattr__")))
    (e8in : PySem.W.findIn K (.ref e8C) "__init__" = some (some (.ref e8I)))
    (e8ti : PySem.W.typeIn K (.ref e8I) = some (.type "function"))
    (e8fl : K.lookup e8I = some ⟨e8oc, e8od, .func (PySem.W.fnOf "__init__" "Full.__init__" (defArgs s_Full) (defBody s_Full) (defScope s_Full) .none e8kV e8dc e8pm e8an e8cd e8ct), e8sl⟩)
    (e8fc : PySem.W.codeIn K e8cd "Full.__init__" = true)
    (e8fk : PySem.W.keepIn K (.ref e8I) = true)
    (e8tC : PySem.W.typeIn K (.ref e8C) = some (.type "type"))
    (e8hC : PySem.W.hasDictIn K e8C = true)
    (e8nmost : PySem.W.findIn K (.ref e8C) "most" = some none)
    (e9g : PySem.W.nsIn K mainGlobals "NoColour" = some (some (.ref e9C)))
    (e9kC : PySem.W.keepIn K (.ref e9C) = true)
    (e9ga : PySem.W.findIn K (.ref e9C) "__getattribute__" = some (some (.builtin "BaseException.__getattribute__")))
    (e9gg : PySem.W.findIn K (.ref e9C) "__getattr__" = some none)
    (e9eC : PySem.W.subIn K (.ref e9C) (.type "BaseException") = some true)
    (e9cl : PySem.W.isClsIn K e9C = true)
    (e9cs : PySem.W.findIn K (.ref e9C) "__class__" = some (some (.builtin "object.__class__")))
    (e9mr : PySem.W.mroIn K e9C (.type "object") = some true)
    (e9q1 : PySem.W.excInitIn K e9C [.type "ValueError", .type "Exception", .type "BaseException", .type "object"] "ValueError.__new__" = true)
    (e9q2 : PySem.W.excOver K e9C [.type "ValueError", .type "Exception", .type "BaseException", .type "object"] = true)
    (e9sa : PySem.W.findIn K (.ref e9C) "__setattr__" = some (some (.builtin "object.__setattr__")))
    (e9in : PySem.W.findIn K (.ref e9C) "__init__" = some (some (.ref e9I)))
    (e9ti : PySem.W.typeIn K (.ref e9I) = some (.type "function"))
    (e9fl : K.lookup e9I = some ⟨e9oc, e9od, .func (PySem.W.fnOf "__init__" "NoColour.__init__" (defArgs s_NoColour) (defBody s_NoColour) (defScope s_NoColour) .none e9kV e9dc e9pm e9an e9cd e9ct), e9sl⟩)
    (e9fc : PySem.W.codeIn K e9cd "NoColour.__init__" = true)
    (e9fk : PySem.W.keepIn K (.ref e9I) = true)
    (e9tC : PySem.W.typeIn K (.ref e9C) = some (.type "type"))
    (e9hC : PySem.W.hasDictIn K e9C = true)
    (e9ncolour : PySem.W.findIn K (.ref e9C) "colour" = some none)
    (e10g : PySem.W.nsIn K mainGlobals "Broken" = some (some (.ref e10C)))
    (e10kC : PySem.W.keepIn K (.ref e10C) = true)
    (e10ga : PySem.W.findIn K (.ref e10C) "__getattribute__" = some (some (.builtin "BaseException.__getattribute__")))
    (e10gg : PySem.W.findIn K (.ref e10C) "__getattr__" = some none)
    (e10eC : PySem.W.subIn K (.ref e10C) (.type "BaseException") = some true)
    (e10cl : PySem.W.isClsIn K e10C = true)
    (e10cs : PySem.W.findIn K (.ref e10C) "__class__" = some (some (.builtin "object.__class__")))
    (e10mr : PySem.W.mroIn K e10C (.type "object") = some true)
    (e10q1 : PySem.W.excInitIn K e10C [.type "ValueError", .type "Exception", .type "BaseException", .type "object"] "ValueError.__new__" = true)
    (e10q2 : PySem.W.excOver K e10C [.type "ValueError", .type "Exception", .type "BaseException", .type "object"] = true)
    (e10sa : PySem.W.findIn K (.ref e10C) "__setattr__" = some (some (.builtin "object.__setattr__")))
    (e10in : PySem.W.findIn K (.ref e10C) "__init__" = some (some (.ref e10I)))
    (e10ti : PySem.W.typeIn K (.ref e10I) = some (.type "function"))
    (e10fl : K.lookup e10I = some ⟨e10oc, e10od, .func (PySem.W.fnOf "__init__" "Broken.__init__" (defArgs s_Broken) (defBody s_Broken) (defScope s_Broken) .none e10kV e10dc e10pm e10an e10cd e10ct), e10sl⟩)
    (e10fc : PySem.W.codeIn K e10cd "Broken.__init__" = true)
    (e10fk : PySem.W.keepIn K (.ref e10I) = true)
    (e10tC : PySem.W.typeIn K (.ref e10C) = some (.type "type"))
    (e10hC : PySem.W.hasDictIn K e10C = true)
    (e10nat : PySem.W.findIn K (.ref e10C) "at" = some none)
    (e11g : PySem.W.nsIn K mainGlobals "NoRow" = some (some (.ref e11C)))
    (e11kC : PySem.W.keepIn K (.ref e11C) = true)
    (e11ga : PySem.W.findIn K (.ref e11C) "__getattribute__" = some (some (.builtin "BaseException.__getattribute__")))
    (e11gg : PySem.W.findIn K (.ref e11C) "__getattr__" = some none)
    (e11eC : PySem.W.subIn K (.ref e11C) (.type "BaseException") = some true)
    (e11cl : PySem.W.isClsIn K e11C = true)
    (e11cs : PySem.W.findIn K (.ref e11C) "__class__" = some (some (.builtin "object.__class__")))
    (e11mr : PySem.W.mroIn K e11C (.type "object") = some true)
    (e11q : PySem.W.excIn K e11C [.type "ValueError", .type "Exception", .type "BaseException", .type "object"] "ValueError.__new__" = true)
    (e12g : PySem.W.nsIn K mainGlobals "NoNumber" = some (some (.ref e12C)))
    (e12kC : PySem.W.keepIn K (.ref e12C) = true)
    (e12ga : PySem.W.findIn K (.ref e12C) "__getattribute__" = some (some (.builtin "BaseException.__getattribute__")))
    (e12gg : PySem.W.findIn K (.ref e12C) "__getattr__" = some none)
    (e12eC : PySem.W.subIn K (.ref e12C) (.type "BaseException") = some true)
    (e12cl : PySem.W.isClsIn K e12C = true)
    (e12cs : PySem.W.findIn K (.ref e12C) "__class__" = some (some (.builtin "object.__class__")))
    (e12mr : PySem.W.mroIn K e12C (.type "object") = some true)
    (e12q1 : PySem.W.excInitIn K e12C [.type "IndexError", .type "LookupError", .type "Exception", .type "BaseException", .type "object"] "IndexError.__new__" = true)
    (e12q2 : PySem.W.excOver K e12C [.type "IndexError", .type "LookupError", .type "Exception", .type "BaseException", .type "object"] = true)
    (e12sa : PySem.W.findIn K (.ref e12C) "__setattr__" = some (some (.builtin "object.__setattr__")))
    (e12in : PySem.W.findIn K (.ref e12C) "__init__" = some (some (.ref e12I)))
    (e12ti : PySem.W.typeIn K (.ref e12I) = some (.type "function"))
    (e12fl : K.lookup e12I = some ⟨e12oc, e12od, .func (PySem.W.fnOf "__init__" "NoNumber.__init__" (defArgs s_NoNumber) (defBody s_NoNumber) (defScope s_NoNumber) .none e12kV e12dc e12pm e12an e12cd e12ct), e12sl⟩)
    (e12fc : PySem.W.codeIn K e12cd "NoNumber.__init__" = true)
    (e12fk : PySem.W.keepIn K (.ref e12I) = true)
    (e12tC : PySem.W.typeIn K (.ref e12C) = some (.type "type"))
    (e12hC : PySem.W.hasDictIn K e12C = true)
    (e12nnumber : PySem.W.findIn K (.ref e12C) "number" = some none)
    (e13g : PySem.W.nsIn K mainGlobals "NoRail" = some (some (.ref e13C)))
    (e13kC : PySem.W.keepIn K (.ref e13C) = true)
    (e13ga : PySem.W.findIn K (.ref e13C) "__getattribute__" = some (some (.builtin "BaseException.__getattribute__")))
    (e13gg : PySem.W.findIn K (.ref e13C) "__getattr__" = some none)
    (e13eC : PySem.W.subIn K (.ref e13C) (.type "BaseException") = some true)
    (e13cl : PySem.W.isClsIn K e13C = true)
    (e13cs : PySem.W.findIn K (.ref e13C) "__class__" = some (some (.builtin "object.__class__")))
    (e13mr : PySem.W.mroIn K e13C (.type "object") = some true)
    (e13q1 : PySem.W.excInitIn K e13C [.type "IndexError", .type "LookupError", .type "Exception", .type "BaseException", .type "object"] "IndexError.__new__" = true)
    (e13q2 : PySem.W.excOver K e13C [.type "IndexError", .type "LookupError", .type "Exception", .type "BaseException", .type "object"] = true)
    (e13sa : PySem.W.findIn K (.ref e13C) "__setattr__" = some (some (.builtin "object.__setattr__")))
    (e13in : PySem.W.findIn K (.ref e13C) "__init__" = some (some (.ref e13I)))
    (e13ti : PySem.W.typeIn K (.ref e13I) = some (.type "function"))
    (e13fl : K.lookup e13I = some ⟨e13oc, e13od, .func (PySem.W.fnOf "__init__" "NoRail.__init__" (defArgs s_NoRail) (defBody s_NoRail) (defScope s_NoRail) .none e13kV e13dc e13pm e13an e13cd e13ct), e13sl⟩)
    (e13fc : PySem.W.codeIn K e13cd "NoRail.__init__" = true)
    (e13fk : PySem.W.keepIn K (.ref e13I) = true)
    (e13tC : PySem.W.typeIn K (.ref e13C) = some (.type "type"))
    (e13hC : PySem.W.hasDictIn K e13C = true)
    (e13nnumber : PySem.W.findIn K (.ref e13C) "number" = some none)
    (e13nplace : PySem.W.findIn K (.ref e13C) "place" = some none)
    (e14g : PySem.W.nsIn K mainGlobals "NoStood" = some (some (.ref e14C)))
    (e14kC : PySem.W.keepIn K (.ref e14C) = true)
    (e14ga : PySem.W.findIn K (.ref e14C) "__getattribute__" = some (some (.builtin "BaseException.__getattribute__")))
    (e14gg : PySem.W.findIn K (.ref e14C) "__getattr__" = some none)
    (e14eC : PySem.W.subIn K (.ref e14C) (.type "BaseException") = some true)
    (e14cl : PySem.W.isClsIn K e14C = true)
    (e14cs : PySem.W.findIn K (.ref e14C) "__class__" = some (some (.builtin "object.__class__")))
    (e14mr : PySem.W.mroIn K e14C (.type "object") = some true)
    (e14q1 : PySem.W.excInitIn K e14C [.type "LookupError", .type "Exception", .type "BaseException", .type "object"] "LookupError.__new__" = true)
    (e14q2 : PySem.W.excOver K e14C [.type "LookupError", .type "Exception", .type "BaseException", .type "object"] = true)
    (e14sa : PySem.W.findIn K (.ref e14C) "__setattr__" = some (some (.builtin "object.__setattr__")))
    (e14in : PySem.W.findIn K (.ref e14C) "__init__" = some (some (.ref e14I)))
    (e14ti : PySem.W.typeIn K (.ref e14I) = some (.type "function"))
    (e14fl : K.lookup e14I = some ⟨e14oc, e14od, .func (PySem.W.fnOf "__init__" "NoStood.__init__" (defArgs s_NoStood) (defBody s_NoStood) (defScope s_NoStood) .none e14kV e14dc e14pm e14an e14cd e14ct), e14sl⟩)
    (e14fc : PySem.W.codeIn K e14cd "NoStood.__init__" = true)
    (e14fk : PySem.W.keepIn K (.ref e14I) = true)
    (e14tC : PySem.W.typeIn K (.ref e14C) = some (.type "type"))
    (e14hC : PySem.W.hasDictIn K e14C = true)
    (e14nk : PySem.W.findIn K (.ref e14C) "k" = some none)
    (kt0 : ([.ref e2C, .ref e3C, .ref e4C, .ref e5C, .ref e6C, .ref e7C, .ref e8C, .ref e9C, .ref e10C, .ref e11C, .ref e12C, .ref e13C, .ref e14C, .ref e1C, .type "ValueError", .type "IndexError", .type "LookupError", .type "KeyError"] : List Value).map (PySem.W.kitOne K (.ref e2C)) = [some true, some false, some false, some false, some false, some false, some false, some false, some false, some false, some false, some false, some false, some true, some true, some false, some false, some false])
    (kt1 : ([.ref e2C, .ref e3C, .ref e4C, .ref e5C, .ref e6C, .ref e7C, .ref e8C, .ref e9C, .ref e10C, .ref e11C, .ref e12C, .ref e13C, .ref e14C, .ref e1C, .type "ValueError", .type "IndexError", .type "LookupError", .type "KeyError"] : List Value).map (PySem.W.kitOne K (.ref e3C)) = [some false, some true, some false, some false, some false, some false, some false, some false, some false, some false, some false, some false, some false, some true, some true, some false, some false, some false])
    (kt2 : ([.ref e2C, .ref e3C, .ref e4C, .ref e5C, .ref e6C, .ref e7C, .ref e8C, .ref e9C, .ref e10C, .ref e11C, .ref e12C, .ref e13C, .ref e14C, .ref e1C, .type "ValueError", .type "IndexError", .type "LookupError", .type "KeyError"] : List Value).map (PySem.W.kitOne K (.ref e4C)) = [some false, some false, some true, some false, some false, some false, some false, some false, some false, some false, some false, some false, some false, some true, some true, some false, some false, some false])
    (kt3 : ([.ref e2C, .ref e3C, .ref e4C, .ref e5C, .ref e6C, .ref e7C, .ref e8C, .ref e9C, .ref e10C, .ref e11C, .ref e12C, .ref e13C, .ref e14C, .ref e1C, .type "ValueError", .type "IndexError", .type "LookupError", .type "KeyError"] : List Value).map (PySem.W.kitOne K (.ref e5C)) = [some false, some false, some false, some true, some false, some false, some false, some false, some false, some false, some false, some false, some false, some true, some true, some false, some false, some false])
    (kt4 : ([.ref e2C, .ref e3C, .ref e4C, .ref e5C, .ref e6C, .ref e7C, .ref e8C, .ref e9C, .ref e10C, .ref e11C, .ref e12C, .ref e13C, .ref e14C, .ref e1C, .type "ValueError", .type "IndexError", .type "LookupError", .type "KeyError"] : List Value).map (PySem.W.kitOne K (.ref e6C)) = [some false, some false, some false, some false, some true, some false, some false, some false, some false, some false, some false, some false, some false, some true, some true, some false, some false, some false])
    (kt5 : ([.ref e2C, .ref e3C, .ref e4C, .ref e5C, .ref e6C, .ref e7C, .ref e8C, .ref e9C, .ref e10C, .ref e11C, .ref e12C, .ref e13C, .ref e14C, .ref e1C, .type "ValueError", .type "IndexError", .type "LookupError", .type "KeyError"] : List Value).map (PySem.W.kitOne K (.ref e7C)) = [some false, some false, some false, some false, some false, some true, some false, some false, some false, some false, some false, some false, some false, some true, some true, some false, some false, some false])
    (kt6 : ([.ref e2C, .ref e3C, .ref e4C, .ref e5C, .ref e6C, .ref e7C, .ref e8C, .ref e9C, .ref e10C, .ref e11C, .ref e12C, .ref e13C, .ref e14C, .ref e1C, .type "ValueError", .type "IndexError", .type "LookupError", .type "KeyError"] : List Value).map (PySem.W.kitOne K (.ref e8C)) = [some false, some false, some false, some false, some false, some false, some true, some false, some false, some false, some false, some false, some false, some true, some true, some false, some false, some false])
    (kt7 : ([.ref e2C, .ref e3C, .ref e4C, .ref e5C, .ref e6C, .ref e7C, .ref e8C, .ref e9C, .ref e10C, .ref e11C, .ref e12C, .ref e13C, .ref e14C, .ref e1C, .type "ValueError", .type "IndexError", .type "LookupError", .type "KeyError"] : List Value).map (PySem.W.kitOne K (.ref e9C)) = [some false, some false, some false, some false, some false, some false, some false, some true, some false, some false, some false, some false, some false, some true, some true, some false, some false, some false])
    (kt8 : ([.ref e2C, .ref e3C, .ref e4C, .ref e5C, .ref e6C, .ref e7C, .ref e8C, .ref e9C, .ref e10C, .ref e11C, .ref e12C, .ref e13C, .ref e14C, .ref e1C, .type "ValueError", .type "IndexError", .type "LookupError", .type "KeyError"] : List Value).map (PySem.W.kitOne K (.ref e10C)) = [some false, some false, some false, some false, some false, some false, some false, some false, some true, some false, some false, some false, some false, some true, some true, some false, some false, some false])
    (kt9 : ([.ref e2C, .ref e3C, .ref e4C, .ref e5C, .ref e6C, .ref e7C, .ref e8C, .ref e9C, .ref e10C, .ref e11C, .ref e12C, .ref e13C, .ref e14C, .ref e1C, .type "ValueError", .type "IndexError", .type "LookupError", .type "KeyError"] : List Value).map (PySem.W.kitOne K (.ref e11C)) = [some false, some false, some false, some false, some false, some false, some false, some false, some false, some true, some false, some false, some false, some true, some true, some false, some false, some false])
    (kt10 : ([.ref e2C, .ref e3C, .ref e4C, .ref e5C, .ref e6C, .ref e7C, .ref e8C, .ref e9C, .ref e10C, .ref e11C, .ref e12C, .ref e13C, .ref e14C, .ref e1C, .type "ValueError", .type "IndexError", .type "LookupError", .type "KeyError"] : List Value).map (PySem.W.kitOne K (.ref e12C)) = [some false, some false, some false, some false, some false, some false, some false, some false, some false, some false, some true, some false, some false, some false, some false, some true, some true, some false])
    (kt11 : ([.ref e2C, .ref e3C, .ref e4C, .ref e5C, .ref e6C, .ref e7C, .ref e8C, .ref e9C, .ref e10C, .ref e11C, .ref e12C, .ref e13C, .ref e14C, .ref e1C, .type "ValueError", .type "IndexError", .type "LookupError", .type "KeyError"] : List Value).map (PySem.W.kitOne K (.ref e13C)) = [some false, some false, some false, some false, some false, some false, some false, some false, some false, some false, some false, some true, some false, some false, some false, some true, some true, some false])
    (kt12 : ([.ref e2C, .ref e3C, .ref e4C, .ref e5C, .ref e6C, .ref e7C, .ref e8C, .ref e9C, .ref e10C, .ref e11C, .ref e12C, .ref e13C, .ref e14C, .ref e1C, .type "ValueError", .type "IndexError", .type "LookupError", .type "KeyError"] : List Value).map (PySem.W.kitOne K (.ref e14C)) = [some false, some false, some false, some false, some false, some false, some false, some false, some false, some false, some false, some false, some true, some false, some false, some false, some true, some false])
    : ∃ fd : FuncData, (∀ (s : Shared) (v : Value), BindsTo s fd ⟨[v], []⟩ [("_law_script", v)]) ∧ ∀ base : Heap, FnG l.prog w K mg base 9 fa fd ["_law_script"] (spLaw K) := by
  have e := hfa.symm.trans (PySem.W.mg_of X G a8)
  cases e
  have T : Txt K w mg := { f__law_box := f0, fd__law_box := _, F__law_box := fun_mk (st := s__law_box) l0 c0 k0, b__law_box := (fun_mk (st := s__law_box) l0 c0 k0).binds (ps := ["_law_script", "_law_turn"]) (fun _ _ _ _ _ _ us hl => match us, hl with | [_, _], _ => rfl), g__law_box := PySem.W.mg_of X G a0, f__law_take := f1, fd__law_take := _, F__law_take := fun_mk (st := s__law_take) l1 c1 k1, b__law_take := (fun_mk (st := s__law_take) l1 c1 k1).binds (ps := ["_law_box_here", "_law_many"]) (fun _ _ _ _ _ _ us hl => match us, hl with | [_, _], _ => rfl), g__law_take := PySem.W.mg_of X G a1, f__law_thing := f2, fd__law_thing := _, F__law_thing := fun_mk (st := s__law_thing) l2 c2 k2, b__law_thing := (fun_mk (st := s__law_thing) l2 c2 k2).binds (ps := ["_law_box_here"]) (fun _ _ _ _ _ _ us hl => match us, hl with | [_], _ => rfl), g__law_thing := PySem.W.mg_of X G a2, f__law_made := f3, fd__law_made := _, F__law_made := fun_mk (st := s__law_made) l3 c3 k3, b__law_made := (fun_mk (st := s__law_made) l3 c3 k3).binds (ps := ["_law_one", "_law_other"]) (fun _ _ _ _ _ _ us hl => match us, hl with | [_, _], _ => rfl), g__law_made := PySem.W.mg_of X G a3, f__law_named := f4, fd__law_named := _, F__law_named := fun_mk (st := s__law_named) l4 c4 k4, b__law_named := (fun_mk (st := s__law_named) l4 c4 k4).binds (ps := ["_law_one", "_law_other"]) (fun _ _ _ _ _ _ us hl => match us, hl with | [_, _], _ => rfl), g__law_named := PySem.W.mg_of X G a4, f__law_fields := f5, fd__law_fields := _, F__law_fields := fun_mk (st := s__law_fields) l5 c5 k5, b__law_fields := (fun_mk (st := s__law_fields) l5 c5 k5).binds (ps := ["_law_lot"]) (fun _ _ _ _ _ _ us hl => match us, hl with | [_], _ => rfl), g__law_fields := PySem.W.mg_of X G a5, f__law_sorts := f6, fd__law_sorts := _, F__law_sorts := fun_mk (st := s__law_sorts) l6 c6 k6, b__law_sorts := (fun_mk (st := s__law_sorts) l6 c6 k6).binds (ps := ["_law_e"]) (fun _ _ _ _ _ _ us hl => match us, hl with | [_], _ => rfl), g__law_sorts := PySem.W.mg_of X G a6, f__law_above := f7, fd__law_above := _, F__law_above := fun_mk (st := s__law_above) l7 c7 k7, b__law_above := (fun_mk (st := s__law_above) l7 c7 k7).binds (ps := ["_law_e"]) (fun _ _ _ _ _ _ us hl => match us, hl with | [_], _ => rfl), g__law_above := PySem.W.mg_of X G a7, m_IndexError := PySem.W.mg_none_of X G z0, m_KeyError := PySem.W.mg_none_of X G z1, m_LookupError := PySem.W.mg_none_of X G z2, m_ValueError := PySem.W.mg_none_of X G z3, m_enumerate := PySem.W.mg_none_of X G z4, m_int := PySem.W.mg_none_of X G z5, m_isinstance := PySem.W.mg_none_of X G z6, m_len := PySem.W.mg_none_of X G z7, m_range := PySem.W.mg_none_of X G z8, m_repr := PySem.W.mg_none_of X G z9, a_RailError := e1C, g_RailError := PySem.W.mg_of X G e1g, a_NoEngine := e2C, g_NoEngine := PySem.W.mg_of X G e2g, k_NoEngine := e2kC, ei_NoEngine := ⟨e2ga, e2gg, e2eC, e2cl, e2cs, egt, etk, e2mr⟩, x_NoEngine := ⟨⟨_, _, _, _, PySem.F.excBase_ValueError, PySem.F.store_ValueError, e2q1, e2q2⟩, e2sa, e2eC, e2tC, e2kC, e2hC⟩, xf_NoEngine := ⟨e2ga, e2gg, e2eC, e2hC⟩, i_NoEngine := e2I, ic_NoEngine := e2in, it_NoEngine := e2ti, id_NoEngine := _, F_NoEngine := fun_mk (st := s_NoEngine) e2fl e2fc e2fk, b_NoEngine := (fun_mk (st := s_NoEngine) e2fl e2fc e2fk).binds (ps := ["self", "word"]) (fun _ _ _ _ _ _ us hl => match us, hl with | [_, _], _ => rfl), kb_NoEngine := ⟨fun s us ws X h1 h2 => .of_eq (match us, ws, h1, h2 with | [_], [_], _, _ => rfl), fun r1 r2 => r1.append r2⟩, n_NoEngine_word := e2nword, a_NoYard := e3C, g_NoYard := PySem.W.mg_of X G e3g, k_NoYard := e3kC, ei_NoYard := ⟨e3ga, e3gg, e3eC, e3cl, e3cs, egt, etk, e3mr⟩, x_NoYard := ⟨⟨_, _, _, _, PySem.F.excBase_ValueError, PySem.F.store_ValueError, e3q1, e3q2⟩, e3sa, e3eC, e3tC, e3kC, e3hC⟩, xf_NoYard := ⟨e3ga, e3gg, e3eC, e3hC⟩, i_NoYard := e3I, ic_NoYard := e3in, it_NoYard := e3ti, id_NoYard := _, F_NoYard := fun_mk (st := s_NoYard) e3fl e3fc e3fk, b_NoYard := (fun_mk (st := s_NoYard) e3fl e3fc e3fk).binds (ps := ["self", "word", "number"]) (fun _ _ _ _ _ _ us hl => match us, hl with | [_, _, _], _ => rfl), kb_NoYard := ⟨fun s us ws X h1 h2 => .of_eq (match us, ws, h1, h2 with | [_], [_, _], _, _ => rfl), fun r1 r2 => r1.append (vals_swap2 r2)⟩, n_NoYard_word := e3nword, n_NoYard_number := e3nnumber, a_NoText := e4C, g_NoText := PySem.W.mg_of X G e4g, k_NoText := e4kC, ei_NoText := ⟨e4ga, e4gg, e4eC, e4cl, e4cs, egt, etk, e4mr⟩, x_NoText := ⟨⟨_, _, _, _, PySem.F.excBase_ValueError, PySem.F.store_ValueError, e4q1, e4q2⟩, e4sa, e4eC, e4tC, e4kC, e4hC⟩, xf_NoText := ⟨e4ga, e4gg, e4eC, e4hC⟩, i_NoText := e4I, ic_NoText := e4in, it_NoText := e4ti, id_NoText := _, F_NoText := fun_mk (st := s_NoText) e4fl e4fc e4fk, b_NoText := (fun_mk (st := s_NoText) e4fl e4fc e4fk).binds (ps := ["self", "at"]) (fun _ _ _ _ _ _ us hl => match us, hl with | [_, _], _ => rfl), kb_NoText := ⟨fun s us ws X h1 h2 => .of_eq (match us, ws, h1, h2 with | [_], [_], _, _ => rfl), fun r1 r2 => r1.append r2⟩, n_NoText_at := e4nat, a_OwnWay := e5C, g_OwnWay := PySem.W.mg_of X G e5g, k_OwnWay := e5kC, ei_OwnWay := ⟨e5ga, e5gg, e5eC, e5cl, e5cs, egt, etk, e5mr⟩, x_OwnWay := ⟨⟨_, _, _, _, PySem.F.excBase_ValueError, PySem.F.store_ValueError, e5q1, e5q2⟩, e5sa, e5eC, e5tC, e5kC, e5hC⟩, xf_OwnWay := ⟨e5ga, e5gg, e5eC, e5hC⟩, i_OwnWay := e5I, ic_OwnWay := e5in, it_OwnWay := e5ti, id_OwnWay := _, F_OwnWay := fun_mk (st := s_OwnWay) e5fl e5fc e5fk, b_OwnWay := (fun_mk (st := s_OwnWay) e5fl e5fc e5fk).binds (ps := ["self", "number"]) (fun _ _ _ _ _ _ us hl => match us, hl with | [_, _], _ => rfl), kb_OwnWay := ⟨fun s us ws X h1 h2 => .of_eq (match us, ws, h1, h2 with | [_], [_], _, _ => rfl), fun r1 r2 => r1.append r2⟩, n_OwnWay_number := e5nnumber, a_TooMany := e6C, g_TooMany := PySem.W.mg_of X G e6g, k_TooMany := e6kC, ei_TooMany := ⟨e6ga, e6gg, e6eC, e6cl, e6cs, egt, etk, e6mr⟩, x_TooMany := ⟨⟨_, _, _, _, PySem.F.excBase_ValueError, PySem.F.store_ValueError, e6q1, e6q2⟩, e6sa, e6eC, e6tC, e6kC, e6hC⟩, xf_TooMany := ⟨e6ga, e6gg, e6eC, e6hC⟩, i_TooMany := e6I, ic_TooMany := e6in, it_TooMany := e6ti, id_TooMany := _, F_TooMany := fun_mk (st := s_TooMany) e6fl e6fc e6fk, b_TooMany := (fun_mk (st := s_TooMany) e6fl e6fc e6fk).binds (ps := ["self", "most"]) (fun _ _ _ _ _ _ us hl => match us, hl with | [_, _], _ => rfl), kb_TooMany := ⟨fun s us ws X h1 h2 => .of_eq (match us, ws, h1, h2 with | [_], [_], _, _ => rfl), fun r1 r2 => r1.append r2⟩, n_TooMany_most := e6nmost, a_TooLong := e7C, g_TooLong := PySem.W.mg_of X G e7g, k_TooLong := e7kC, ei_TooLong := ⟨e7ga, e7gg, e7eC, e7cl, e7cs, egt, etk, e7mr⟩, x_TooLong := ⟨⟨_, _, _, _, PySem.F.excBase_ValueError, PySem.F.store_ValueError, e7q1, e7q2⟩, e7sa, e7eC, e7tC, e7kC, e7hC⟩, xf_TooLong := ⟨e7ga, e7gg, e7eC, e7hC⟩, i_TooLong := e7I, ic_TooLong := e7in, it_TooLong := e7ti, id_TooLong := _, F_TooLong := fun_mk (st := s_TooLong) e7fl e7fc e7fk, b_TooLong := (fun_mk (st := s_TooLong) e7fl e7fc e7fk).binds (ps := ["self", "most"]) (fun _ _ _ _ _ _ us hl => match us, hl with | [_, _], _ => rfl), kb_TooLong := ⟨fun s us ws X h1 h2 => .of_eq (match us, ws, h1, h2 with | [_], [_], _, _ => rfl), fun r1 r2 => r1.append r2⟩, n_TooLong_most := e7nmost, a_Full := e8C, g_Full := PySem.W.mg_of X G e8g, k_Full := e8kC, ei_Full := ⟨e8ga, e8gg, e8eC, e8cl, e8cs, egt, etk, e8mr⟩, x_Full := ⟨⟨_, _, _, _, PySem.F.excBase_ValueError, PySem.F.store_ValueError, e8q1, e8q2⟩, e8sa, e8eC, e8tC, e8kC, e8hC⟩, xf_Full := ⟨e8ga, e8gg, e8eC, e8hC⟩, i_Full := e8I, ic_Full := e8in, it_Full := e8ti, id_Full := _, F_Full := fun_mk (st := s_Full) e8fl e8fc e8fk, b_Full := (fun_mk (st := s_Full) e8fl e8fc e8fk).binds (ps := ["self", "most"]) (fun _ _ _ _ _ _ us hl => match us, hl with | [_, _], _ => rfl), kb_Full := ⟨fun s us ws X h1 h2 => .of_eq (match us, ws, h1, h2 with | [_], [_], _, _ => rfl), fun r1 r2 => r1.append r2⟩, n_Full_most := e8nmost, a_NoColour := e9C, g_NoColour := PySem.W.mg_of X G e9g, k_NoColour := e9kC, ei_NoColour := ⟨e9ga, e9gg, e9eC, e9cl, e9cs, egt, etk, e9mr⟩, x_NoColour := ⟨⟨_, _, _, _, PySem.F.excBase_ValueError, PySem.F.store_ValueError, e9q1, e9q2⟩, e9sa, e9eC, e9tC, e9kC, e9hC⟩, xf_NoColour := ⟨e9ga, e9gg, e9eC, e9hC⟩, i_NoColour := e9I, ic_NoColour := e9in, it_NoColour := e9ti, id_NoColour := _, F_NoColour := fun_mk (st := s_NoColour) e9fl e9fc e9fk, b_NoColour := (fun_mk (st := s_NoColour) e9fl e9fc e9fk).binds (ps := ["self", "colour"]) (fun _ _ _ _ _ _ us hl => match us, hl with | [_, _], _ => rfl), kb_NoColour := ⟨fun s us ws X h1 h2 => .of_eq (match us, ws, h1, h2 with | [_], [_], _, _ => rfl), fun r1 r2 => r1.append r2⟩, n_NoColour_colour := e9ncolour, a_Broken := e10C, g_Broken := PySem.W.mg_of X G e10g, k_Broken := e10kC, ei_Broken := ⟨e10ga, e10gg, e10eC, e10cl, e10cs, egt, etk, e10mr⟩, x_Broken := ⟨⟨_, _, _, _, PySem.F.excBase_ValueError, PySem.F.store_ValueError, e10q1, e10q2⟩, e10sa, e10eC, e10tC, e10kC, e10hC⟩, xf_Broken := ⟨e10ga, e10gg, e10eC, e10hC⟩, i_Broken := e10I, ic_Broken := e10in, it_Broken := e10ti, id_Broken := _, F_Broken := fun_mk (st := s_Broken) e10fl e10fc e10fk, b_Broken := (fun_mk (st := s_Broken) e10fl e10fc e10fk).binds (ps := ["self", "at"]) (fun _ _ _ _ _ _ us hl => match us, hl with | [_, _], _ => rfl), kb_Broken := ⟨fun s us ws X h1 h2 => .of_eq (match us, ws, h1, h2 with | [_], [_], _, _ => rfl), fun r1 r2 => r1.append r2⟩, n_Broken_at := e10nat, a_NoRow := e11C, g_NoRow := PySem.W.mg_of X G e11g, k_NoRow := e11kC, ei_NoRow := ⟨e11ga, e11gg, e11eC, e11cl, e11cs, egt, etk, e11mr⟩, q_NoRow := e11q, a_NoNumber := e12C, g_NoNumber := PySem.W.mg_of X G e12g, k_NoNumber := e12kC, ei_NoNumber := ⟨e12ga, e12gg, e12eC, e12cl, e12cs, egt, etk, e12mr⟩, x_NoNumber := ⟨⟨_, _, _, _, PySem.F.excBase_IndexError, PySem.F.store_IndexError, e12q1, e12q2⟩, e12sa, e12eC, e12tC, e12kC, e12hC⟩, xf_NoNumber := ⟨e12ga, e12gg, e12eC, e12hC⟩, i_NoNumber := e12I, ic_NoNumber := e12in, it_NoNumber := e12ti, id_NoNumber := _, F_NoNumber := fun_mk (st := s_NoNumber) e12fl e12fc e12fk, b_NoNumber := (fun_mk (st := s_NoNumber) e12fl e12fc e12fk).binds (ps := ["self", "number"]) (fun _ _ _ _ _ _ us hl => match us, hl with | [_, _], _ => rfl), kb_NoNumber := ⟨fun s us ws X h1 h2 => .of_eq (match us, ws, h1, h2 with | [_], [_], _, _ => rfl), fun r1 r2 => r1.append r2⟩, n_NoNumber_number := e12nnumber, a_NoRail := e13C, g_NoRail := PySem.W.mg_of X G e13g, k_NoRail := e13kC, ei_NoRail := ⟨e13ga, e13gg, e13eC, e13cl, e13cs, egt, etk, e13mr⟩, x_NoRail := ⟨⟨_, _, _, _, PySem.F.excBase_IndexError, PySem.F.store_IndexError, e13q1, e13q2⟩, e13sa, e13eC, e13tC, e13kC, e13hC⟩, xf_NoRail := ⟨e13ga, e13gg, e13eC, e13hC⟩, i_NoRail := e13I, ic_NoRail := e13in, it_NoRail := e13ti, id_NoRail := _, F_NoRail := fun_mk (st := s_NoRail) e13fl e13fc e13fk, b_NoRail := (fun_mk (st := s_NoRail) e13fl e13fc e13fk).binds (ps := ["self", "number", "place"]) (fun _ _ _ _ _ _ us hl => match us, hl with | [_, _, _], _ => rfl), kb_NoRail := ⟨fun s us ws X h1 h2 => .of_eq (match us, ws, h1, h2 with | [_], [_, _], _, _ => rfl), fun r1 r2 => r1.append (vals_swap2 r2)⟩, n_NoRail_number := e13nnumber, n_NoRail_place := e13nplace, a_NoStood := e14C, g_NoStood := PySem.W.mg_of X G e14g, k_NoStood := e14kC, ei_NoStood := ⟨e14ga, e14gg, e14eC, e14cl, e14cs, egt, etk, e14mr⟩, x_NoStood := ⟨⟨_, _, _, _, PySem.F.excBase_LookupError, PySem.F.store_LookupError, e14q1, e14q2⟩, e14sa, e14eC, e14tC, e14kC, e14hC⟩, xf_NoStood := ⟨e14ga, e14gg, e14eC, e14hC⟩, i_NoStood := e14I, ic_NoStood := e14in, it_NoStood := e14ti, id_NoStood := _, F_NoStood := fun_mk (st := s_NoStood) e14fl e14fc e14fk, b_NoStood := (fun_mk (st := s_NoStood) e14fl e14fc e14fk).binds (ps := ["self", "k"]) (fun _ _ _ _ _ _ us hl => match us, hl with | [_, _], _ => rfl), kb_NoStood := ⟨fun s us ws X h1 h2 => .of_eq (match us, ws, h1, h2 with | [_], [_], _, _ => rfl), fun r1 r2 => r1.append r2⟩, n_NoStood_k := e14nk, asked := [.ref e2C, .ref e3C, .ref e4C, .ref e5C, .ref e6C, .ref e7C, .ref e8C, .ref e9C, .ref e10C, .ref e11C, .ref e12C, .ref e13C, .ref e14C, .ref e1C, .type "ValueError", .type "IndexError", .type "LookupError", .type "KeyError"], asked_is := rfl, kit_NoEngine := kt0, kit_NoYard := kt1, kit_NoText := kt2, kit_OwnWay := kt3, kit_TooMany := kt4, kit_TooLong := kt5, kit_Full := kt6, kit_NoColour := kt7, kit_Broken := kt8, kit_NoRow := kt9, kit_NoNumber := kt10, kit_NoRail := kt11, kit_NoStood := kt12 }
  exact ⟨PySem.W.fnOf "law" "law" (defArgs s_law) (defBody s_law) (defScope s_law) .none kV8 dc8 pm8 an8 cd8 ct8, fun s v => .of_eq rfl, fun base => ok_law T (fun_mk (st := s_law) l8 c8 k8)⟩
end K01
open PySem PySem.W PyProof.Rows
set_option maxHeartbeats 0 in
theorem PySem.Challenge.cw_ownrail_k01_refusals_holds : PySem.Challenge.rw_ownrail_k01_refusals.Holds := by
  w_on; o_law; k_head; (case hw => w_witness2)
  k_fill
  refine K01.walk_ofG (l := PySem.Challenge.rw_ownrail_k01_refusals) (n := 63) (k := 9) (x := "_law_script") (sp := fun w => OR.spLaw _) rfl (by decide) rfl ⟨rfl, by decide, by decide⟩ (fun w h Y => PySem.W.kIn_of Y) ?F (fun _ _ a ns hl hS => ⟨a, ns, rfl, hS, hl, fun _ => rfl⟩)
  case F =>
    intro w mg fa h KX G hmg
    refine' K01.all_mk KX G hmg ?a0 ?l0 ?c0 ?k0 ?a1 ?l1 ?c1 ?k1 ?a2 ?l2 ?c2 ?k2 ?a3 ?l3 ?c3 ?k3 ?a4 ?l4 ?c4 ?k4 ?a5 ?l5 ?c5 ?k5 ?a6 ?l6 ?c6 ?k6 ?a7 ?l7 ?c7 ?k7 ?a8 ?l8 ?c8 ?k8 ?z0 ?z1 ?z2 ?z3 ?z4 ?z5 ?z6 ?z7 ?z8 ?z9 ?egt ?etk ?e1g ?e2g ?e2kC ?e2ga ?e2gg ?e2eC ?e2cl ?e2cs ?e2mr ?e2q1 ?e2q2 ?e2sa ?e2in ?e2ti ?e2fl ?e2fc ?e2fk ?e2tC ?e2hC ?e2nword ?e3g ?e3kC ?e3ga ?e3gg ?e3eC ?e3cl ?e3cs ?e3mr ?e3q1 ?e3q2 ?e3sa ?e3in ?e3ti ?e3fl ?e3fc ?e3fk ?e3tC ?e3hC ?e3nword ?e3nnumber ?e4g ?e4kC ?e4ga ?e4gg ?e4eC ?e4cl ?e4cs ?e4mr ?e4q1 ?e4q2 ?e4sa ?e4in ?e4ti ?e4fl ?e4fc ?e4fk ?e4tC ?e4hC ?e4nat ?e5g ?e5kC ?e5ga ?e5gg ?e5eC ?e5cl ?e5cs ?e5mr ?e5q1 ?e5q2 ?e5sa ?e5in ?e5ti ?e5fl ?e5fc ?e5fk ?e5tC ?e5hC ?e5nnumber ?e6g ?e6kC ?e6ga ?e6gg ?e6eC ?e6cl ?e6cs ?e6mr ?e6q1 ?e6q2 ?e6sa ?e6in ?e6ti ?e6fl ?e6fc ?e6fk ?e6tC ?e6hC ?e6nmost ?e7g ?e7kC ?e7ga ?e7gg ?e7eC ?e7cl ?e7cs ?e7mr ?e7q1 ?e7q2 ?e7sa ?e7in ?e7ti ?e7fl ?e7fc ?e7fk ?e7tC ?e7hC ?e7nmost ?e8g ?e8kC ?e8ga ?e8gg ?e8eC ?e8cl ?e8cs ?e8mr ?e8q1 ?e8q2 ?e8sa ?e8in ?e8ti ?e8fl ?e8fc ?e8fk ?e8tC ?e8hC ?e8nmost ?e9g ?e9kC ?e9ga ?e9gg ?e9eC ?e9cl ?e9cs ?e9mr ?e9q1 ?e9q2 ?e9sa ?e9in ?e9ti ?e9fl ?e9fc ?e9fk ?e9tC ?e9hC ?e9ncolour ?e10g ?e10kC ?e10ga ?e10gg ?e10eC ?e10cl ?e10cs ?e10mr ?e10q1 ?e10q2 ?e10sa ?e10in ?e10ti ?e10fl ?e10fc ?e10fk ?e10tC ?e10hC ?e10nat ?e11g ?e11kC ?e11ga ?e11gg ?e11eC ?e11cl ?e11cs ?e11mr ?e11q ?e12g ?e12kC ?e12ga ?e12gg ?e12eC ?e12cl ?e12cs ?e12mr ?e12q1 ?e12q2 ?e12sa ?e12in ?e12ti ?e12fl ?e12fc ?e12fk ?e12tC ?e12hC ?e12nnumber ?e13g ?e13kC ?e13ga ?e13gg ?e13eC ?e13cl ?e13cs ?e13mr ?e13q1 ?e13q2 ?e13sa ?e13in ?e13ti ?e13fl ?e13fc ?e13fk ?e13tC ?e13hC ?e13nnumber ?e13nplace ?e14g ?e14kC ?e14ga ?e14gg ?e14eC ?e14cl ?e14cs ?e14mr ?e14q1 ?e14q2 ?e14sa ?e14in ?e14ti ?e14fl ?e14fc ?e14fk ?e14tC ?e14hC ?e14nk ?kt0 ?kt1 ?kt2 ?kt3 ?kt4 ?kt5 ?kt6 ?kt7 ?kt8 ?kt9 ?kt10 ?kt11 ?kt12
    (case a0 => k_is)
    (case l0 => k_is)
    (case c0 => k_is)
    (case k0 => k_is)
    (case a1 => k_is)
    (case l1 => k_is)
    (case c1 => k_is)
    (case k1 => k_is)
    (case a2 => k_is)
    (case l2 => k_is)
    (case c2 => k_is)
    (case k2 => k_is)
    (case a3 => k_is)
    (case l3 => k_is)
    (case c3 => k_is)
    (case k3 => k_is)
    (case a4 => k_is)
    (case l4 => k_is)
    (case c4 => k_is)
    (case k4 => k_is)
    (case a5 => k_is)
    (case l5 => k_is)
    (case c5 => k_is)
    (case k5 => k_is)
    (case a6 => k_is)
    (case l6 => k_is)
    (case c6 => k_is)
    (case k6 => k_is)
    (case a7 => k_is)
    (case l7 => k_is)
    (case c7 => k_is)
    (case k7 => k_is)
    (case a8 => k_is)
    (case l8 => k_is)
    (case c8 => k_is)
    (case k8 => k_is)
    (case z0 => k_is)
    (case z1 => k_is)
    (case z2 => k_is)
    (case z3 => k_is)
    (case z4 => k_is)
    (case z5 => k_is)
    (case z6 => k_is)
    (case z7 => k_is)
    (case z8 => k_is)
    (case z9 => k_is)
    (case egt => k_is)
    (case etk => k_is)
    (case e1g => k_is)
    (case e2g => k_is)
    (case e2kC => k_is)
    (case e2ga => k_is)
    (case e2gg => k_is)
    (case e2eC => k_is)
    (case e2cl => k_is)
    (case e2cs => k_is)
    (case e2mr => k_is)
    (case e2q1 => first | rfl | k_is)
    (case e2q2 => first | rfl | k_is)
    (case e2sa => k_is)
    (case e2in => k_is)
    (case e2ti => k_is)
    (case e2fl => k_is)
    (case e2fc => k_is)
    (case e2fk => k_is)
    (case e2tC => k_is)
    (case e2hC => k_is)
    (case e2nword => k_is)
    (case e3g => k_is)
    (case e3kC => k_is)
    (case e3ga => k_is)
    (case e3gg => k_is)
    (case e3eC => k_is)
    (case e3cl => k_is)
    (case e3cs => k_is)
    (case e3mr => k_is)
    (case e3q1 => first | rfl | k_is)
    (case e3q2 => first | rfl | k_is)
    (case e3sa => k_is)
    (case e3in => k_is)
    (case e3ti => k_is)
    (case e3fl => k_is)
    (case e3fc => k_is)
    (case e3fk => k_is)
    (case e3tC => k_is)
    (case e3hC => k_is)
    (case e3nword => k_is)
    (case e3nnumber => k_is)
    (case e4g => k_is)
    (case e4kC => k_is)
    (case e4ga => k_is)
    (case e4gg => k_is)
    (case e4eC => k_is)
    (case e4cl => k_is)
    (case e4cs => k_is)
    (case e4mr => k_is)
    (case e4q1 => first | rfl | k_is)
    (case e4q2 => first | rfl | k_is)
    (case e4sa => k_is)
    (case e4in => k_is)
    (case e4ti => k_is)
    (case e4fl => k_is)
    (case e4fc => k_is)
    (case e4fk => k_is)
    (case e4tC => k_is)
    (case e4hC => k_is)
    (case e4nat => k_is)
    (case e5g => k_is)
    (case e5kC => k_is)
    (case e5ga => k_is)
    (case e5gg => k_is)
    (case e5eC => k_is)
    (case e5cl => k_is)
    (case e5cs => k_is)
    (case e5mr => k_is)
    (case e5q1 => first | rfl | k_is)
    (case e5q2 => first | rfl | k_is)
    (case e5sa => k_is)
    (case e5in => k_is)
    (case e5ti => k_is)
    (case e5fl => k_is)
    (case e5fc => k_is)
    (case e5fk => k_is)
    (case e5tC => k_is)
    (case e5hC => k_is)
    (case e5nnumber => k_is)
    (case e6g => k_is)
    (case e6kC => k_is)
    (case e6ga => k_is)
    (case e6gg => k_is)
    (case e6eC => k_is)
    (case e6cl => k_is)
    (case e6cs => k_is)
    (case e6mr => k_is)
    (case e6q1 => first | rfl | k_is)
    (case e6q2 => first | rfl | k_is)
    (case e6sa => k_is)
    (case e6in => k_is)
    (case e6ti => k_is)
    (case e6fl => k_is)
    (case e6fc => k_is)
    (case e6fk => k_is)
    (case e6tC => k_is)
    (case e6hC => k_is)
    (case e6nmost => k_is)
    (case e7g => k_is)
    (case e7kC => k_is)
    (case e7ga => k_is)
    (case e7gg => k_is)
    (case e7eC => k_is)
    (case e7cl => k_is)
    (case e7cs => k_is)
    (case e7mr => k_is)
    (case e7q1 => first | rfl | k_is)
    (case e7q2 => first | rfl | k_is)
    (case e7sa => k_is)
    (case e7in => k_is)
    (case e7ti => k_is)
    (case e7fl => k_is)
    (case e7fc => k_is)
    (case e7fk => k_is)
    (case e7tC => k_is)
    (case e7hC => k_is)
    (case e7nmost => k_is)
    (case e8g => k_is)
    (case e8kC => k_is)
    (case e8ga => k_is)
    (case e8gg => k_is)
    (case e8eC => k_is)
    (case e8cl => k_is)
    (case e8cs => k_is)
    (case e8mr => k_is)
    (case e8q1 => first | rfl | k_is)
    (case e8q2 => first | rfl | k_is)
    (case e8sa => k_is)
    (case e8in => k_is)
    (case e8ti => k_is)
    (case e8fl => k_is)
    (case e8fc => k_is)
    (case e8fk => k_is)
    (case e8tC => k_is)
    (case e8hC => k_is)
    (case e8nmost => k_is)
    (case e9g => k_is)
    (case e9kC => k_is)
    (case e9ga => k_is)
    (case e9gg => k_is)
    (case e9eC => k_is)
    (case e9cl => k_is)
    (case e9cs => k_is)
    (case e9mr => k_is)
    (case e9q1 => first | rfl | k_is)
    (case e9q2 => first | rfl | k_is)
    (case e9sa => k_is)
    (case e9in => k_is)
    (case e9ti => k_is)
    (case e9fl => k_is)
    (case e9fc => k_is)
    (case e9fk => k_is)
    (case e9tC => k_is)
    (case e9hC => k_is)
    (case e9ncolour => k_is)
    (case e10g => k_is)
    (case e10kC => k_is)
    (case e10ga => k_is)
    (case e10gg => k_is)
    (case e10eC => k_is)
    (case e10cl => k_is)
    (case e10cs => k_is)
    (case e10mr => k_is)
    (case e10q1 => first | rfl | k_is)
    (case e10q2 => first | rfl | k_is)
    (case e10sa => k_is)
    (case e10in => k_is)
    (case e10ti => k_is)
    (case e10fl => k_is)
    (case e10fc => k_is)
    (case e10fk => k_is)
    (case e10tC => k_is)
    (case e10hC => k_is)
    (case e10nat => k_is)
    (case e11g => k_is)
    (case e11kC => k_is)
    (case e11ga => k_is)
    (case e11gg => k_is)
    (case e11eC => k_is)
    (case e11cl => k_is)
    (case e11cs => k_is)
    (case e11mr => k_is)
    (case e11q => first | rfl | kernel_rfl | decide +kernel | with_unfolding_all rfl | k_is)
    (case e12g => k_is)
    (case e12kC => k_is)
    (case e12ga => k_is)
    (case e12gg => k_is)
    (case e12eC => k_is)
    (case e12cl => k_is)
    (case e12cs => k_is)
    (case e12mr => k_is)
    (case e12q1 => first | rfl | k_is)
    (case e12q2 => first | rfl | k_is)
    (case e12sa => k_is)
    (case e12in => k_is)
    (case e12ti => k_is)
    (case e12fl => k_is)
    (case e12fc => k_is)
    (case e12fk => k_is)
    (case e12tC => k_is)
    (case e12hC => k_is)
    (case e12nnumber => k_is)
    (case e13g => k_is)
    (case e13kC => k_is)
    (case e13ga => k_is)
    (case e13gg => k_is)
    (case e13eC => k_is)
    (case e13cl => k_is)
    (case e13cs => k_is)
    (case e13mr => k_is)
    (case e13q1 => first | rfl | k_is)
    (case e13q2 => first | rfl | k_is)
    (case e13sa => k_is)
    (case e13in => k_is)
    (case e13ti => k_is)
    (case e13fl => k_is)
    (case e13fc => k_is)
    (case e13fk => k_is)
    (case e13tC => k_is)
    (case e13hC => k_is)
    (case e13nnumber => k_is)
    (case e13nplace => k_is)
    (case e14g => k_is)
    (case e14kC => k_is)
    (case e14ga => k_is)
    (case e14gg => k_is)
    (case e14eC => k_is)
    (case e14cl => k_is)
    (case e14cs => k_is)
    (case e14mr => k_is)
    (case e14q1 => first | rfl | k_is)
    (case e14q2 => first | rfl | k_is)
    (case e14sa => k_is)
    (case e14in => k_is)
    (case e14ti => k_is)
    (case e14fl => k_is)
    (case e14fc => k_is)
    (case e14fk => k_is)
    (case e14tC => k_is)
    (case e14hC => k_is)
    (case e14nk => k_is)
    (case kt0 => first | rfl | k_is)
    (case kt1 => first | rfl | k_is)
    (case kt2 => first | rfl | k_is)
    (case kt3 => first | rfl | k_is)
    (case kt4 => first | rfl | k_is)
    (case kt5 => first | rfl | k_is)
    (case kt6 => first | rfl | k_is)
    (case kt7 => first | rfl | k_is)
    (case kt8 => first | rfl | k_is)
    (case kt9 => first | rfl | k_is)
    (case kt10 => first | rfl | k_is)
    (case kt11 => first | rfl | k_is)
    (case kt12 => first | rfl | k_is)
