import PyProof.Rows.All
import HandS.ForMost
import HandS.ForExc
import HandS.Rev
import HandS.Zip
import HandS.IsInst
import HandS.Style
import HandS.Lambda
import HandS.Nested
import HandS.Defaults
import HandS.Wide
import HandS.AnyAll
import HandS.TupAny
import HandS.Conv
import HandS.Comp
import KE.GoesZip
import KE.GoesMore
import PyProof.WalksPairs
import HandS.Walk
import KE.GoesEnum
import HandS.WordsDict
import HandS.EndTab
import PySem.Challenge.RW_kernelstack_k01_terms_moved_and_put_in
set_option Elab.async false
set_option linter.all false
set_option maxRecDepth 100000
set_option maxHeartbeats 4000000
namespace K1
open PySem L2
/-! ### terms -/
inductive Lf where
  | sort (l : Nat) | cst (c : Str) | rcr (c : Str) (l : Nat)
  deriving DecidableEq
inductive Tm where
  | var (n : Nat) | leaf (l : Lf) | bind (p : Bool) (x : Str) (k b : Tm) | app (f a : Tm) | letE (x : Str) (k v b : Tm)
  deriving DecidableEq
def bw (p : Bool) : Str := if p = true then ("pi" : Str) else ("lam" : Str)
def encL : Lf → PyData
  | .sort l => .tuple [.str ("sort" : Str), .int l]
  | .cst c => .tuple [.str ("const" : Str), .str c]
  | .rcr c l => .tuple [.str ("rec" : Str), .str c, .int l]
def enc : Tm → PyData
  | .var n => .tuple [.str ("var" : Str), .int n]
  | .leaf l => encL l
  | .bind p x k b => .tuple [.str (bw p), .str x, enc k, enc b]
  | .app f a => .tuple [.str ("app" : Str), enc f, enc a]
  | .letE x k v b => .tuple [.str ("let" : Str), .str x, enc k, enc v, enc b]
/-- a term with others in the places of its variables from s on -/
def wv (g : Nat → Nat → Tm) : Nat → Tm → Tm
  | s, .var n => if s ≤ n then g n s else .var n
  | _, .leaf l => .leaf l
  | s, .bind p x k b => .bind p x (wv g s k) (wv g (s + 1) b)
  | s, .app f a => .app (wv g s f) (wv g s a)
  | s, .letE x k v b => .letE x (wv g s k) (wv g s v) (wv g (s + 1) b)
def lf (m s : Nat) (t : Tm) : Tm := wv (fun n _ => .var (n + m)) s t
def pg (vals : List Tm) (n d : Nat) : Tm := if n - d < vals.length then lf d 0 (vals.getD (vals.length - 1 - (n - d)) (.var 0)) else .var (n - vals.length)
def pf (vals : List Tm) (s : Nat) (t : Tm) : Tm := wv (pg vals) s t
theorem lf_zero (t : Tm) : ∀ s, lf 0 s t = t := by
  induction t with
  | var n => intro s; show (if s ≤ n then Tm.var (n + 0) else .var n) = .var n; split <;> rfl
  | leaf l => intro s; rfl
  | bind p x k b ik ib => intro s; show Tm.bind p x (lf 0 s k) (lf 0 (s + 1) b) = _; rw [ik, ib]
  | app f a i1 i2 => intro s; show Tm.app (lf 0 s f) (lf 0 s a) = _; rw [i1, i2]
  | letE x k v b i1 i2 i3 => intro s; show Tm.letE x (lf 0 s k) (lf 0 s v) (lf 0 (s + 1) b) = _; rw [i1, i2, i3]
theorem lf_var (m s n : Nat) : lf m s (.var n) = if s ≤ n then .var (n + m) else .var n := rfl
theorem pf_var (vals : List Tm) (s n : Nat) : pf vals s (.var n) = if s ≤ n then pg vals n s else .var n := rfl
theorem pg_lo {vals : List Tm} {n d : Nat} (h : n - d < vals.length) : pg vals n d = lf d 0 (vals.getD (vals.length - 1 - (n - d)) (.var 0)) := by rw [pg, if_pos h]
theorem pg_hi {vals : List Tm} {n d : Nat} (h : vals.length ≤ n - d) : pg vals n d = .var (n - vals.length) := by rw [pg, if_neg (by omega)]
/-- (3) putting in what was lifted -/
theorem pf_lf (v : Tm) (t : Tm) : ∀ k, pf [v] k (lf 1 k t) = t := by
  induction t with
  | var n =>
    intro k
    rw [lf_var]
    split
    · rename_i h
      rw [pf_var, if_pos (by omega), pg_hi (by simp <;> omega)]
      try congr 1
    · rename_i h
      rw [pf_var, if_neg h]
  | leaf l => intro k; rfl
  | bind p x K b ik ib => intro k; show Tm.bind p x (pf [v] k (lf 1 k K)) (pf [v] (k + 1) (lf 1 (k + 1) b)) = _; rw [ik, ib]
  | app f a i1 i2 => intro k; show Tm.app (pf [v] k (lf 1 k f)) (pf [v] k (lf 1 k a)) = _; rw [i1, i2]
  | letE x K w b i1 i2 i3 => intro k; show Tm.letE x (pf [v] k (lf 1 k K)) (pf [v] k (lf 1 k w)) (pf [v] (k + 1) (lf 1 (k + 1) b)) = _; rw [i1, i2, i3]
theorem pf_lf2 (c : Tm) (k : Nat) (v : Tm) : ∀ j, pf [c] (k + j) (lf k j (lf 1 j v)) = lf k j v := by
  induction v with
  | var n =>
    intro j
    rw [lf_var, lf_var]
    split
    · rename_i h
      rw [lf_var, if_pos (by omega), pf_var, if_pos (by omega), pg_hi (by simp <;> omega)]
      congr 1; (simp <;> omega)
    · rename_i h
      rw [lf_var, if_neg h, pf_var, if_neg (by omega)]
  | leaf l => intro j; rfl
  | bind p x K b ik ib => intro j; show Tm.bind p x (pf [c] (k + j) (lf k j (lf 1 j K))) (pf [c] (k + j + 1) (lf k (j + 1) (lf 1 (j + 1) b))) = .bind p x (lf k j K) (lf k (j + 1) b); rw [ik, Nat.add_assoc, ib]
  | app f a i1 i2 => intro j; show Tm.app (pf [c] (k + j) (lf k j (lf 1 j f))) (pf [c] (k + j) (lf k j (lf 1 j a))) = .app (lf k j f) (lf k j a); rw [i1, i2]
  | letE x K w b i1 i2 i3 => intro j; show Tm.letE x (pf [c] (k + j) (lf k j (lf 1 j K))) (pf [c] (k + j) (lf k j (lf 1 j w))) (pf [c] (k + j + 1) (lf k (j + 1) (lf 1 (j + 1) b))) = .letE x (lf k j K) (lf k j w) (lf k (j + 1) b); rw [i1, i2, Nat.add_assoc, i3]
/-- (4) two values at once -/
theorem pf_two (c v : Tm) (t : Tm) : ∀ k, pf [c, v] k t = pf [c] k (pf [lf 1 0 v] k t) := by
  induction t with
  | var n =>
    intro k
    rw [pf_var, pf_var [lf 1 0 v]]
    by_cases h : k ≤ n
    · rw [if_pos h, if_pos h]
      by_cases h0 : n = k
      · subst h0
        rw [pg_lo (vals := [c, v]) (by simp), pg_lo (vals := [lf 1 0 v]) (by simp)]
        simp only [Nat.sub_self]
        exact (pf_lf2 c n v 0).symm
      · rw [pg_hi (vals := [lf 1 0 v]) (by simp <;> omega), pf_var, if_pos (by simp <;> omega)]
        by_cases h1 : n = k + 1
        · subst h1
          rw [pg_lo (vals := [c, v]) (by simp), pg_lo (vals := [c]) (by simp)]
          simp
        · rw [pg_hi (vals := [c, v]) (by simp <;> omega), pg_hi (vals := [c]) (by simp <;> omega)]
          try congr 1
    · rw [if_neg h, if_neg h, pf_var, if_neg h]
  | leaf l => intro k; rfl
  | bind p x K b ik ib => intro k; show Tm.bind p x (pf [c, v] k K) (pf [c, v] (k + 1) b) = .bind p x (pf [c] k (pf [lf 1 0 v] k K)) (pf [c] (k + 1) (pf [lf 1 0 v] (k + 1) b)); rw [ik, ib]
  | app f a i1 i2 => intro k; show Tm.app (pf [c, v] k f) (pf [c, v] k a) = .app (pf [c] k (pf [lf 1 0 v] k f)) (pf [c] k (pf [lf 1 0 v] k a)); rw [i1, i2]
  | letE x K w b i1 i2 i3 => intro k; show Tm.letE x (pf [c, v] k K) (pf [c, v] k w) (pf [c, v] (k + 1) b) = .letE x (pf [c] k (pf [lf 1 0 v] k K)) (pf [c] k (pf [lf 1 0 v] k w)) (pf [c] (k + 1) (pf [lf 1 0 v] (k + 1) b)); rw [i1, i2, i3]

/-! ### bounds: below, deep, size -/
/-- each variable at depth j is below B + j -/
def bnd (B : Nat) : Tm → Nat → Prop
  | .var n, j => n < B + j
  | .leaf _, _ => True
  | .bind _ _ k b, j => bnd B k j ∧ bnd B b (j + 1)
  | .app f a, j => bnd B f j ∧ bnd B a j
  | .letE _ k v b, j => bnd B k j ∧ bnd B v j ∧ bnd B b (j + 1)
def dep : Tm → Nat
  | .var _ => 1
  | .leaf _ => 1
  | .bind _ _ k b => max (dep k) (dep b) + 1
  | .app f a => max (dep f) (dep a) + 1
  | .letE _ k v b => max (dep k) (max (dep v) (dep b)) + 1
def cnt : Tm → Nat
  | .var _ => 1
  | .leaf _ => 1
  | .bind _ _ k b => 1 + (cnt k + cnt b)
  | .app f a => 1 + (cnt f + cnt a)
  | .letE _ k v b => 1 + (cnt k + (cnt v + cnt b))
theorem cnt_pos (t : Tm) : 0 < cnt t := by cases t <;> simp [cnt] <;> omega
theorem bnd_wv {B B' : Nat} {g : Nat → Nat → Tm} (hg : ∀ n d, d ≤ n → n < B + d → bnd B' (g n d) d) (hB : B ≤ B' ∨ True) (t : Tm) : ∀ s, bnd B t s → bnd B' (wv g s t) s := by
  induction t with
  | var n =>
    intro s h
    show bnd B' (if s ≤ n then g n s else .var n) s
    split
    · rename_i q; exact hg n s q h
    · rename_i q; show n < B' + s; omega
  | leaf l => intro s h; trivial
  | bind p x k b ik ib => intro s h; exact ⟨ik s h.1, ib (s + 1) h.2⟩
  | app f a i1 i2 => intro s h; exact ⟨i1 s h.1, i2 s h.2⟩
  | letE x k v b i1 i2 i3 => intro s h; exact ⟨i1 s h.1, i2 s h.2.1, i3 (s + 1) h.2.2⟩
theorem bnd_lf_gen (B m : Nat) (t : Tm) : ∀ s j, s ≤ j → bnd B t j → bnd (B + m) (lf m s t) j := by
  induction t with
  | var n =>
    intro s j hs h
    have h : n < B + j := h
    rw [lf_var]
    split
    · show n + m < B + m + j; omega
    · show n < B + m + j; omega
  | leaf l => intro s j _ h; trivial
  | bind p x k b ik ib => intro s j hs h; exact ⟨ik s j hs h.1, ib (s + 1) (j + 1) (by omega) h.2⟩
  | app f a i1 i2 => intro s j hs h; exact ⟨i1 s j hs h.1, i2 s j hs h.2⟩
  | letE x k v b i1 i2 i3 => intro s j hs h; exact ⟨i1 s j hs h.1, i2 s j hs h.2.1, i3 (s + 1) (j + 1) (by omega) h.2.2⟩
/-- lifted by d, at depth d more -/
theorem bnd_lf_deep (B d : Nat) (t : Tm) : ∀ s, bnd B t s → bnd B (lf d s t) (d + s) := by
  induction t with
  | var n =>
    intro s h
    have h : n < B + s := h
    rw [lf_var]
    split
    · show n + d < B + (d + s); omega
    · show n < B + (d + s); omega
  | leaf l => intro s h; trivial
  | bind p x k b ik ib => intro s h; exact ⟨ik s h.1, by have := ib (s + 1) h.2; exact this⟩
  | app f a i1 i2 => intro s h; exact ⟨i1 s h.1, i2 s h.2⟩
  | letE x k v b i1 i2 i3 => intro s h; exact ⟨i1 s h.1, i2 s h.2.1, i3 (s + 1) h.2.2⟩
theorem bnd_pf (B : Nat) (v : Tm) (hv : bnd B v 0) (t : Tm) (ht : bnd B t 0) (hB : 0 < B) : bnd B (pf [v] 0 t) 0 := by
  refine bnd_wv (B := B) (B' := B) (fun n d h1 h2 => ?_) (.inr trivial) t 0 ht
  rw [pg]
  split
  · rename_i q
    have e : n - d = 0 := by simp at q; omega
    rw [e]
    exact bnd_lf_deep B d v 0 hv
  · rename_i q
    show n - 1 < B + d
    omega
theorem bnd_mono {B C : Nat} (h : B ≤ C) (t : Tm) : ∀ j, bnd B t j → bnd C t j := by
  induction t with
  | var n => intro j q; have q : n < B + j := q; show n < C + j; omega
  | leaf l => intro j q; trivial
  | bind p x k b ik ib => intro s h; exact ⟨ik s h.1, ib (s + 1) h.2⟩
  | app f a i1 i2 => intro s h; exact ⟨i1 s h.1, i2 s h.2⟩
  | letE x k v b i1 i2 i3 => intro s h; exact ⟨i1 s h.1, i2 s h.2.1, i3 (s + 1) h.2.2⟩
theorem dep_lf (m : Nat) (t : Tm) : ∀ s, dep (lf m s t) = dep t := by
  induction t with
  | var n => intro s; rw [lf_var]; split <;> rfl
  | leaf l => intro s; rfl
  | bind p x k b ik ib => intro s; show max (dep (lf m s k)) (dep (lf m (s + 1) b)) + 1 = _; rw [ik, ib]; rfl
  | app f a i1 i2 => intro s; show max (dep (lf m s f)) (dep (lf m s a)) + 1 = _; rw [i1, i2]; rfl
  | letE x k v b i1 i2 i3 => intro s; show max (dep (lf m s k)) (max (dep (lf m s v)) (dep (lf m (s + 1) b))) + 1 = _; rw [i1, i2, i3]; rfl
theorem dep_wv {D : Nat} (hD : 1 ≤ D) {g : Nat → Nat → Tm} (hg : ∀ n d, dep (g n d) ≤ D) (t : Tm) : ∀ s, dep (wv g s t) ≤ dep t + D := by
  induction t with
  | var n => intro s; show dep (if s ≤ n then g n s else .var n) ≤ _; split; exact Nat.le_trans (hg _ _) (by omega); show 1 ≤ _; omega
  | leaf l => intro s; show 1 ≤ _; omega
  | bind p x k b ik ib => intro s; show max (dep (wv g s k)) (dep (wv g (s + 1) b)) + 1 ≤ max (dep k) (dep b) + 1 + D; have := ik s; have := ib (s + 1); omega
  | app f a i1 i2 => intro s; show max (dep (wv g s f)) (dep (wv g s a)) + 1 ≤ max (dep f) (dep a) + 1 + D; have := i1 s; have := i2 s; omega
  | letE x k v b i1 i2 i3 => intro s; show max (dep (wv g s k)) (max (dep (wv g s v)) (dep (wv g (s + 1) b))) + 1 ≤ max (dep k) (max (dep v) (dep b)) + 1 + D; have := i1 s; have := i2 s; have := i3 (s + 1); omega
theorem dep_pf1 (v t : Tm) (s : Nat) : dep (pf [v] s t) ≤ dep t + (dep v + 1) := by
  refine dep_wv (by omega) (fun n d => ?_) t s
  rw [pg]
  split
  · rename_i q
    have e : n - d = 0 := by simp at q; omega
    rw [e, show ([v] : List Tm).getD (([v] : List Tm).length - 1 - 0) (.var 0) = v from rfl, dep_lf]; omega
  · show 1 ≤ _; omega

/-! ### sizes of PyData: what == needs -/
/-- the names in a term are texts that Python has -/
def LfOk : Lf → Prop
  | .sort _ => True
  | .cst c => (PyData.str c).canLay0 = true
  | .rcr c _ => (PyData.str c).canLay0 = true
def TmOk : Tm → Prop
  | .var _ => True
  | .leaf l => LfOk l
  | .bind _ x k b => (PyData.str x).canLay0 = true ∧ TmOk k ∧ TmOk b
  | .app f a => TmOk f ∧ TmOk a
  | .letE x k v b => (PyData.str x).canLay0 = true ∧ TmOk k ∧ TmOk v ∧ TmOk b
theorem TmOk_wv {g : Nat → Nat → Tm} (hg : ∀ n d, TmOk (g n d)) (t : Tm) : ∀ s, TmOk t → TmOk (wv g s t) := by
  induction t with
  | var n => intro s h; show TmOk (if s ≤ n then g n s else .var n); split; exact hg _ _; trivial
  | leaf l => intro s h; exact h
  | bind p x k b ik ib => intro s h; exact ⟨h.1, ik s h.2.1, ib _ h.2.2⟩
  | app f a i1 i2 => intro s h; exact ⟨i1 s h.1, i2 s h.2⟩
  | letE x k v b i1 i2 i3 => intro s h; exact ⟨h.1, i1 s h.2.1, i2 s h.2.2.1, i3 _ h.2.2.2⟩
theorem TmOk_lf {t : Tm} (h : TmOk t) (m s : Nat) : TmOk (lf m s t) := TmOk_wv (g := fun n _ => .var (n + m)) (fun _ _ => True.intro) t s h
theorem TmOk_pf {vals : List Tm} (hv : ∀ v ∈ vals, TmOk v) {t : Tm} (h : TmOk t) (s : Nat) : TmOk (pf vals s t) := by
  refine TmOk_wv (fun n d => ?_) t s h
  rw [pg]
  split
  · rename_i q
    refine TmOk_lf ?_ _ _
    rw [List.getD_eq_getElem?_getD]
    cases e : vals[vals.length - 1 - (n - d)]? with
    | none => trivial
    | some v => exact hv v (List.mem_of_getElem? e)
  · trivial
end K1
namespace K1
open PySem L2
open TL (numL tl_num numL_inj numL_free)
/-! ### names for the variables -/
inductive Nm where
  | fre (s : Str) | leaf (l : Lf) | app (f a : Nm) | bind (p : Bool) (k : Nm) (m : Str) (b : Nm) | letE (k v : Nm) (m : Str) (b : Nm)
def encN : Nm → PyData
  | .fre s => .str s
  | .leaf l => encL l
  | .app f a => .tuple [.str ("app" : Str), encN f, encN a]
  | .bind p k m b => .tuple [.str (bw p), encN k, .str m, encN b]
  | .letE k v m b => .tuple [.str ("let" : Str), encN k, encN v, .str m, encN b]
def num (n : Nat) : Str := Str.ofString (toString ((n : Nat) : Int))
def bn (n : Nat) (f : Str) : Str := ("b" : Str) ++ num n ++ f
def fn (n : Nat) : Str := ("free" : Str) ++ num n
def nmv (n : Nat) (ns : List Str) : Str := match ns[n]? with
  | some s => s
  | none => fn (n - ns.length)
def nam : Tm → List Str → Str → Nm
  | .var n, ns, _ => .fre (nmv n ns)
  | .leaf l, _, _ => .leaf l
  | .app f a, ns, fr => .app (nam f ns fr) (nam a ns fr)
  | .bind p _ k b, ns, fr => .bind p (nam k ns fr) (bn ns.length fr) (nam b (bn ns.length fr :: ns) fr)
  | .letE _ k v b, ns, fr => .letE (nam k ns fr) (nam v ns fr) (bn ns.length fr) (nam b (bn ns.length fr :: ns) fr)
inductive Bk where
  | var (i : Nat) | free (s : Str) | leaf (l : Lf) | app (f a : Bk) | bind (p : Bool) (k b : Bk) | letE (k v b : Bk)
  deriving DecidableEq
def encB : Bk → PyData
  | .var i => .tuple [.str ("var" : Str), .int i]
  | .free s => .tuple [.str ("free" : Str), .str s]
  | .leaf l => encL l
  | .app f a => .tuple [.str ("app" : Str), encB f, encB a]
  | .bind p k b => .tuple [.str (bw p), encB k, encB b]
  | .letE k v b => .tuple [.str ("let" : Str), encB k, encB v, encB b]
def bk : Nm → List Str → Bk
  | .fre s, bd => if s ∈ bd then .var (bd.idxOf s) else .free s
  | .leaf l, _ => .leaf l
  | .app f a, bd => .app (bk f bd) (bk a bd)
  | .bind p k m b, bd => .bind p (bk k bd) (bk b (m :: bd))
  | .letE k v m b, bd => .letE (bk k bd) (bk v bd) (bk b (m :: bd))
def pt (z : Str) (val : Nm) : Nm → Nm
  | .fre s => if s = z then val else .fre s
  | .leaf l => .leaf l
  | .app f a => .app (pt z val f) (pt z val a)
  | .bind p k m b => .bind p (pt z val k) m (pt z val b)
  | .letE k v m b => .letE (pt z val k) (pt z val v) m (pt z val b)
/-- variables below k as they are, the others by their names -/
def cl : Tm → List Str → Nat → Bk
  | .var n, ns, k => if n < k then .var n else .free (nmv (n - k) ns)
  | .leaf l, _, _ => .leaf l
  | .app f a, ns, k => .app (cl f ns k) (cl a ns k)
  | .bind p _ K b, ns, k => .bind p (cl K ns k) (cl b ns (k + 1))
  | .letE _ K v b, ns, k => .letE (cl K ns k) (cl v ns k) (cl b ns (k + 1))
/-- the binders' names from N on, k of them, the last first -/
def bns (N : Nat) (f : Str) : Nat → List Str
  | 0 => []
  | k + 1 => bn (N + k) f :: bns N f k
theorem bns_len (N : Nat) (f : Str) : ∀ k, (bns N f k).length = k
  | 0 => rfl
  | k + 1 => by rw [bns, List.length_cons, bns_len]
theorem bns_get (N : Nat) (f : Str) : ∀ k i, i < k → (bns N f k)[i]? = some (bn (N + (k - 1 - i)) f)
  | 0, i, h => absurd h (Nat.not_lt_zero i)
  | k + 1, 0, _ => by simp [bns]
  | k + 1, i + 1, h => by
    rw [bns, List.getElem?_cons_succ, bns_get N f k i (by omega)]
    congr 3; omega
theorem mem_bns {N : Nat} {f s : Str} : ∀ {k}, s ∈ bns N f k → ∃ j, N ≤ j ∧ j < N + k ∧ s = bn j f
  | 0, h => by cases h
  | k + 1, h => by
    rw [bns] at h
    rcases List.mem_cons.mp h with e | h
    · exact ⟨N + k, by omega, by omega, e⟩
    · obtain ⟨j, h1, h2, e⟩ := mem_bns h
      exact ⟨j, h1, by omega, e⟩
theorem str_ext {x y : Str} (h : x.cps = y.cps) : x = y := by cases x; cases y; exact congrArg _ h
theorem app_cps (x y : Str) : (x ++ y).cps = x.cps ++ y.cps := rfl
theorem num_cps (n : Nat) : (num n).cps.toList = numL n := tl_num n
theorem bn_list (n : Nat) (f : Str) : (bn n f).cps.toList = 98 :: (numL n ++ f.cps.toList) := by
  show (((("b" : Str) ++ num n) ++ f).cps).toList = _
  rw [app_cps, app_cps, Array.toList_append, Array.toList_append, num_cps]
  rfl
theorem bn_inj {m n : Nat} {f : Str} (h : bn m f = bn n f) : m = n := by
  have e := congrArg (fun s : Str => s.cps.toList) h
  simp only [bn_list] at e
  injection e with _ e
  exact numL_inj (List.append_cancel_right e)
theorem bns_nodup (N : Nat) (f : Str) : ∀ k, (bns N f k).Nodup
  | 0 => List.nodup_nil
  | k + 1 => List.nodup_cons.mpr ⟨fun h => by
      obtain ⟨j, _, h2, e⟩ := mem_bns h
      have := bn_inj e
      omega, bns_nodup N f k⟩
theorem idx_at {s : Str} : ∀ {l : List Str} {i : Nat}, l.Nodup → l[i]? = some s → l.idxOf s = i
  | [], i, _, h => by simp at h
  | a :: l, 0, _, h => by simp at h; subst h; simp
  | a :: l, i + 1, nd, h => by
    have h : l[i]? = some s := by simpa using h
    have ne : a ≠ s := fun e => (List.nodup_cons.mp nd).1 (e ▸ List.mem_of_getElem? h)
    rw [List.idxOf_cons, show (a == s) = false from beq_eq_false_iff_ne.mpr ne, idx_at (List.nodup_cons.mp nd).2 h]
    rfl
theorem bk_fre_in {s : Str} {l cs : List Str} {i : Nat} (nd : l.Nodup) (h : l[i]? = some s) : bk (.fre s) (l ++ cs) = .var i := by
  have hm := List.mem_of_getElem? h
  show (if s ∈ l ++ cs then Bk.var ((l ++ cs).idxOf s) else .free s) = _
  rw [if_pos (List.mem_append_left _ hm), List.idxOf_append, if_pos hm, idx_at nd h]
theorem bk_fre_out {s : Str} {l : List Str} (h : s ∉ l) : bk (.fre s) l = .free s := if_neg h
/-- naming, then going back -/
theorem bk_nam (ns : List Str) (f : Str) (cs : List Str) (B : Nat) (hB : B ≤ ns.length) (h1 : ∀ s ∈ ns, ∀ n, s ≠ bn n f) (h2 : ∀ s ∈ ns, s ∉ cs) (t : Tm) :
    ∀ k, bnd B t k → bk (nam t (bns ns.length f k ++ ns) f) (bns ns.length f k ++ cs) = cl t ns k := by
  induction t with
  | var n =>
    intro k hb
    have hb : n < B + k := hb
    show bk (.fre (nmv n (bns ns.length f k ++ ns))) _ = if n < k then Bk.var n else .free (nmv (n - k) ns)
    by_cases h : n < k
    · rw [if_pos h]
      have e := bns_get ns.length f k n h
      have e2 : nmv n (bns ns.length f k ++ ns) = bn (ns.length + (k - 1 - n)) f := by
        unfold nmv
        rw [List.getElem?_append_left (by rw [bns_len]; exact h), e]
      rw [e2]
      exact bk_fre_in (bns_nodup _ _ _) e
    · rw [if_neg h]
      have hn : n - k < ns.length := by omega
      have e1 : ns[n - k]? = some ns[n - k] := List.getElem?_eq_getElem hn
      have e2 : nmv n (bns ns.length f k ++ ns) = ns[n - k] := by
        unfold nmv
        rw [List.getElem?_append_right (by rw [bns_len]; omega), bns_len, e1]
      have e3 : nmv (n - k) ns = ns[n - k] := by
        unfold nmv
        rw [e1]
      have hm : ns[n - k] ∈ ns := List.getElem_mem hn
      rw [e2, e3]
      refine bk_fre_out fun hz => ?_
      rcases List.mem_append.mp hz with z | z
      · obtain ⟨j, _, _, e⟩ := mem_bns z
        exact h1 _ hm j e
      · exact h2 _ hm z
  | leaf l => intro k _; rfl
  | app a b i1 i2 => intro k hb; show Bk.app _ _ = Bk.app _ _; rw [i1 k hb.1, i2 k hb.2]
  | bind p x K b i1 i2 =>
    intro k hb
    have e : bn (bns ns.length f k ++ ns).length f = bn (ns.length + k) f := by rw [List.length_append, bns_len, Nat.add_comm]
    show Bk.bind p _ _ = Bk.bind p _ _
    rw [i1 k hb.1, e, ← i2 (k + 1) hb.2]
    rfl
  | letE x K v b i1 i2 i3 =>
    intro k hb
    have e : bn (bns ns.length f k ++ ns).length f = bn (ns.length + k) f := by rw [List.length_append, bns_len, Nat.add_comm]
    show Bk.letE _ _ _ = Bk.letE _ _ _
    rw [i1 k hb.1, i2 k hb.2.1, e, ← i3 (k + 1) hb.2.2]
    rfl
theorem nmv_drop (n m : Nat) (ns : List Str) (h : n + m < ns.length) : nmv n (ns.drop m) = nmv (n + m) ns := by
  unfold nmv
  rw [List.getElem?_drop, Nat.add_comm m n, List.getElem?_eq_getElem h]
/-- (1) lifting is leaving out names -/
theorem cl_lf (m B : Nat) (ns : List Str) (hB : B + m ≤ ns.length) (t : Tm) : ∀ k, bnd B t k → cl (lf m k t) ns k = cl t (ns.drop m) k := by
  induction t with
  | var n =>
    intro k hb
    have hb : n < B + k := hb
    rw [lf_var]
    show _ = if n < k then Bk.var n else .free (nmv (n - k) (ns.drop m))
    by_cases h : n < k
    · rw [if_neg (by omega), if_pos h]
      show (if n < k then Bk.var n else _) = _
      rw [if_pos h]
    · rw [if_pos (by omega), if_neg h]
      show (if n + m < k then _ else Bk.free (nmv (n + m - k) ns)) = _
      rw [if_neg (by omega), nmv_drop _ _ _ (by omega)]
      congr 2; omega
  | leaf l => intro k _; rfl
  | app a b i1 i2 => intro k hb; show Bk.app _ _ = Bk.app _ _; rw [← i1 k hb.1, ← i2 k hb.2]; rfl
  | bind p x K b i1 i2 => intro k hb; show Bk.bind p _ _ = Bk.bind p _ _; rw [← i1 k hb.1, ← i2 (k + 1) hb.2]; rfl
  | letE x K v b i1 i2 i3 => intro k hb; show Bk.letE _ _ _ = Bk.letE _ _ _; rw [← i1 k hb.1, ← i2 k hb.2.1, ← i3 (k + 1) hb.2.2]; rfl
theorem cl_shift (ns : List Str) (d : Nat) (v : Tm) : ∀ j, cl (lf d j v) ns (d + j) = cl v ns j := by
  induction v with
  | var n =>
    intro j
    rw [lf_var]
    show _ = if n < j then Bk.var n else .free (nmv (n - j) ns)
    by_cases h : n < j
    · rw [if_neg (by omega), if_pos h]
      show (if n < d + j then Bk.var n else _) = _
      rw [if_pos (by omega)]
    · rw [if_pos (by omega), if_neg h]
      show (if n + d < d + j then _ else Bk.free (nmv (n + d - (d + j)) ns)) = _
      rw [if_neg (by omega)]
      congr 2; omega
  | leaf l => intro k; rfl
  | app a b i1 i2 => intro k; show Bk.app _ _ = Bk.app _ _; rw [← i1 k, ← i2 k]; rfl
  | bind p x K b i1 i2 => intro k; show Bk.bind p _ _ = Bk.bind p _ _; rw [← i1 k, ← i2 (k + 1)]; rfl
  | letE x K v b i1 i2 i3 => intro k; show Bk.letE _ _ _ = Bk.letE _ _ _; rw [← i1 k, ← i2 k, ← i3 (k + 1)]; rfl
theorem bk_fre_eq {s : Str} {ns bs : List Str} {n k : Nat} : True := trivial
/-- (2) putting a named term in the place of a name -/
theorem bk_pt (z : Str) (ns : List Str) (v : Tm) (g : Str) (B : Nat) (hB : B ≤ ns.length + 1) (hv : bnd B v 0) (hBv : B ≤ ns.length) (hz : ∀ n, z ≠ bn n "") (h1 : ∀ s ∈ ns, ∀ n, s ≠ bn n "") (h3 : ∀ s ∈ ns, ∀ n, s ≠ bn n g) (hzn : z ∉ ns) (t : Tm) :
    ∀ k, bnd B t k → bk (pt z (nam v ns g) (nam t (bns (z :: ns).length "" k ++ z :: ns) "")) (bns (z :: ns).length "" k) = cl (pf [v] k t) ns k := by
  induction t with
  | var n =>
    intro k hb
    have hb : n < B + k := hb
    show bk (if nmv n (bns (z :: ns).length "" k ++ z :: ns) = z then nam v ns g else .fre (nmv n (bns (z :: ns).length "" k ++ z :: ns))) _ = _
    rw [pf_var]
    by_cases h : n < k
    · have e := bns_get (z :: ns).length "" k n h
      have e2 : nmv n (bns (z :: ns).length "" k ++ z :: ns) = bn ((z :: ns).length + (k - 1 - n)) "" := by
        unfold nmv
        rw [List.getElem?_append_left (by rw [bns_len]; exact h), e]
      rw [e2, if_neg (fun q => hz _ q.symm), show (if k ≤ n then pg [v] n k else Tm.var n) = Tm.var n from if_neg (by omega)]
      show _ = if n < k then Bk.var n else _
      rw [if_pos h]
      have q := bk_fre_in (cs := []) (bns_nodup (z :: ns).length "" k) e
      rw [List.append_nil] at q
      exact q
    · rw [show (if k ≤ n then pg [v] n k else Tm.var n) = pg [v] n k from if_pos (by omega)]
      have e0 : nmv n (bns (z :: ns).length "" k ++ z :: ns) = nmv (n - k) (z :: ns) := by
        unfold nmv
        rw [List.getElem?_append_right (by rw [bns_len]; omega), bns_len, List.length_append, bns_len]
        have : n - (k + (z :: ns).length) = n - k - (z :: ns).length := by omega
        rw [this]
      by_cases h0 : n = k
      · subst h0
        have e2 : nmv (n - n) (z :: ns) = z := by rw [Nat.sub_self]; rfl
        rw [e0, e2, if_pos rfl, pg_lo (by simp)]
        have q := bk_nam ns g (bns (z :: ns).length "" n) B hBv h3 (fun s hs hm => by
          obtain ⟨j, _, _, e⟩ := mem_bns hm
          exact h1 s hs j e) v 0 hv
        have q2 := cl_shift ns n v 0
        simp only [Nat.sub_self]
        show _ = cl (lf n 0 v) ns n
        rw [Nat.add_zero] at q2
        rw [q2]
        exact q
      · have hn : n - k - 1 < ns.length := by omega
        have e2 : nmv (n - k) (z :: ns) = nmv (n - 1 - k) ns := by
          have a1 : n - k = (n - 1 - k) + 1 := by omega
          rw [a1]
          unfold nmv
          rw [List.getElem?_cons_succ, List.getElem?_eq_getElem (show n - 1 - k < ns.length by omega)]
        have e3 : nmv (n - 1 - k) ns = ns[n - 1 - k]'(by omega) := by
          unfold nmv
          rw [List.getElem?_eq_getElem (show n - 1 - k < ns.length by omega)]
        have hm : nmv (n - 1 - k) ns ∈ ns := by rw [e3]; exact List.getElem_mem _
        rw [e0, e2, if_neg (fun q : nmv (n - 1 - k) ns = z => hzn (by rw [← q]; exact hm)), pg_hi (by simp; omega)]
        show _ = if n - 1 < k then _ else Bk.free (nmv (n - 1 - k) ns)
        rw [if_neg (by omega)]
        refine bk_fre_out fun hz' => ?_
        obtain ⟨j, _, _, e⟩ := mem_bns hz'
        exact h1 _ hm j e
  | leaf l => intro k _; rfl
  | app a b i1 i2 => intro k hb; show Bk.app _ _ = Bk.app (cl (pf [v] k a) ns k) (cl (pf [v] k b) ns k); rw [← i1 k hb.1, ← i2 k hb.2]; try rfl
  | bind p x K b i1 i2 =>
    intro k hb
    have e : bn (bns (z :: ns).length "" k ++ z :: ns).length "" = bn ((z :: ns).length + k) "" := by rw [List.length_append, bns_len, Nat.add_comm]
    show Bk.bind p (bk (pt z _ (nam K _ _)) _) (bk (pt z _ (nam b (bn (bns (z :: ns).length "" k ++ z :: ns).length "" :: _) _)) _) = Bk.bind p (cl (pf [v] k K) ns k) (cl (pf [v] (k + 1) b) ns (k + 1))
    rw [i1 k hb.1, e, ← i2 (k + 1) hb.2]
    rfl
  | letE x K w b i1 i2 i3 =>
    intro k hb
    have e : bn (bns (z :: ns).length "" k ++ z :: ns).length "" = bn ((z :: ns).length + k) "" := by rw [List.length_append, bns_len, Nat.add_comm]
    show Bk.letE (bk (pt z _ (nam K _ _)) _) (bk (pt z _ (nam w _ _)) _) (bk (pt z _ (nam b (bn (bns (z :: ns).length "" k ++ z :: ns).length "" :: _) _)) _) = Bk.letE (cl (pf [v] k K) ns k) (cl (pf [v] k w) ns k) (cl (pf [v] (k + 1) b) ns (k + 1))
    rw [i1 k hb.1, i2 k hb.2.1, e, ← i3 (k + 1) hb.2.2]
    rfl
end K1
namespace K1
open PySem PySem.Spec PyProof.Rows L2
open TL (numL tl_num numL_inj numL_free)
def topS (i : Nat) : Stmt := PySem.Challenge.pw_kernelstack_k01_terms_moved_and_put_in.main.body.getD i (.Pass ⟨0, 0, 0, 0⟩)
/-! ### data at a value, in what is tracked alone -/
mutual
inductive Dx (H : Hp) : V → PyData → Prop
  | non : Dx H .non .none
  | bl (b : Bool) : Dx H (.bl b) (.bool b)
  | int (i : Int) : Dx H (.int i) (.int i)
  | str (x : Str) : Dx H (.str x) (.str x)
  | lst {a : Addr} {xs : List V} {ds : List PyData} : H a = some (.lst xs) → DxA H xs ds → Dx H (.ref a) (.list ds)
  | tup {a : Addr} {xs : List V} {ds : List PyData} : H a = some (.tup xs) → DxA H xs ds → Dx H (.ref a) (.tuple ds)
inductive DxA (H : Hp) : List V → List PyData → Prop
  | nil : DxA H [] []
  | cons {v : V} {vs : List V} {d : PyData} {ds : List PyData} : Dx H v d → DxA H vs ds → DxA H (v :: vs) (d :: ds)
end
mutual
theorem Dx.to {K : PySem.W.Frag} {H : Hp} : ∀ (d : PyData) (v : V), Dx H v d → Dp K H v d
  | .none, _, h => by cases h; exact .non
  | .bool _, _, h => by cases h; exact .bl _
  | .int _, _, h => by cases h; exact .int _
  | .str _, _, h => by cases h; exact .str _
  | .list ds, _, h => by cases h with | lst h1 h2 => exact .lst (SqL.of h1) (DxA.to ds _ h2)
  | .tuple ds, _, h => by cases h with | tup h1 h2 => exact .tup (SqT.of h1) (DxA.to ds _ h2)
  | .dict _, _, h => by cases h
theorem DxA.to {K : PySem.W.Frag} {H : Hp} : ∀ (ds : List PyData) (vs : List V), DxA H vs ds → DpAll K H vs ds
  | [], _, h => by cases h; exact .nil
  | d :: ds, _, h => by cases h with | cons h1 h2 => exact .cons (Dx.to d _ h1) (DxA.to ds _ h2)
end
/-- tuples and lists stay -/
def Sty (H H' : Hp) : Prop := (∀ a xs, H a = some (.tup xs) → H' a = some (.tup xs)) ∧ ∀ a xs, H a = some (.lst xs) → H' a = some (.lst xs)
mutual
theorem Dx.sty {H H' : Hp} (e : Sty H H') : ∀ (d : PyData) (v : V), Dx H v d → Dx H' v d
  | .none, _, h => by cases h; exact .non
  | .bool _, _, h => by cases h; exact .bl _
  | .int _, _, h => by cases h; exact .int _
  | .str _, _, h => by cases h; exact .str _
  | .list ds, _, h => by cases h with | lst h1 h2 => exact .lst (e.2 _ _ h1) (DxA.sty e ds _ h2)
  | .tuple ds, _, h => by cases h with | tup h1 h2 => exact .tup (e.1 _ _ h1) (DxA.sty e ds _ h2)
  | .dict _, _, h => by cases h
theorem DxA.sty {H H' : Hp} (e : Sty H H') : ∀ (ds : List PyData) (vs : List V), DxA H vs ds → DxA H' vs ds
  | [], _, h => by cases h; exact .nil
  | d :: ds, _, h => by cases h with | cons h1 h2 => exact .cons (Dx.sty e d _ h1) (DxA.sty e ds _ h2)
end
mutual
/-- no list in it -/
def nl : PyData → Bool
  | .list _ => false
  | .tuple ds => nlA ds
  | _ => true
def nlA : List PyData → Bool
  | [] => true
  | d :: ds => nl d && nlA ds
end
def StT (H H' : Hp) : Prop := ∀ a xs, H a = some (.tup xs) → H' a = some (.tup xs)
mutual
theorem Dx.stt {H H' : Hp} (e : StT H H') : ∀ (d : PyData) (v : V), nl d = true → Dx H v d → Dx H' v d
  | .none, _, _, h => by cases h; exact .non
  | .bool _, _, _, h => by cases h; exact .bl _
  | .int _, _, _, h => by cases h; exact .int _
  | .str _, _, _, h => by cases h; exact .str _
  | .list ds, _, n, h => by cases n
  | .tuple ds, _, n, h => by cases h with | tup h1 h2 => exact .tup (e _ _ h1) (DxA.stt e ds _ n h2)
  | .dict _, _, _, h => by cases h
theorem DxA.stt {H H' : Hp} (e : StT H H') : ∀ (ds : List PyData) (vs : List V), nlA ds = true → DxA H vs ds → DxA H' vs ds
  | [], _, _, h => by cases h; exact .nil
  | d :: ds, _, n, h => by
    have n : (nl d && nlA ds) = true := n
    rw [Bool.and_eq_true] at n
    cases h with | cons h1 h2 => exact .cons (Dx.stt e d _ n.1 h1) (DxA.stt e ds _ n.2 h2)
end
theorem DxA.length {H : Hp} : ∀ {vs : List V} {ds : List PyData}, DxA H vs ds → vs.length = ds.length
  | _, _, .nil => rfl
  | _, _, .cons _ t => congrArg (· + 1) (DxA.length t)
theorem DxA.get {H : Hp} : ∀ {vs : List V} {ds : List PyData} {i : Nat} {d : PyData}, DxA H vs ds → ds[i]? = some d → ∃ v, vs[i]? = some v ∧ Dx H v d
  | _, _, _, _, .nil, h => by simp at h
  | _, _, 0, _, .cons h _, e => by simp at e; subst e; exact ⟨_, rfl, h⟩
  | _, _, i + 1, _, .cons _ t, e => by
    obtain ⟨v, h1, h2⟩ := DxA.get (i := i) t (by simpa using e)
    exact ⟨v, by simpa using h1, h2⟩
theorem DxA.append {H : Hp} : ∀ {vs ws : List V} {ds es : List PyData}, DxA H vs ds → DxA H ws es → DxA H (vs ++ ws) (ds ++ es)
  | _, _, _, _, .nil, h => h
  | _, _, _, _, .cons a t, h => .cons a (DxA.append t h)

/-! ### the tables of code objects -/
structure Tbl where
  aL : Addr
  aP : Addr
  aW : Addr
  aU : Addr
  nd : [aL, aP, aW, aU].Nodup
def qL : Str := "lifted.<locals>.<lambda>"
def qP : Str := "put_in_from.<locals>.change"
def qW : Str := "law.<locals>.<lambda>"
def qU : Str := "uses_var.<locals>.<genexpr>"
def Tbl.list (T : Tbl) : List (Addr × Str) := [(T.aL, qL), (T.aP, qP), (T.aW, qW), (T.aU, qU)]
def Tb (T : Tbl) (H : Hp) : Prop := LamX.Tabs T.list H
def Gr (T : Tbl) (H H' : Hp) : Prop := LamX.ExtN H H' ∧ (Tb T H → Tb T H')
section
variable {T : Tbl} {H H1 H2 : Hp}
theorem Gr.refl (H : Hp) : Gr T H H := ⟨LamX.ExtN.refl H, id⟩
theorem Gr.trans (a : Gr T H H1) (b : Gr T H1 H2) : Gr T H H2 := ⟨a.1.trans b.1, fun h => b.2 (a.2 h)⟩
theorem Tb.ext (t : Tb T H) (e : ∀ b o, H b = some o → H1 b = some o) : Tb T H1 := LamX.Tabs.ext t e
theorem Gr.of (e : ∀ b o, H b = some o → H1 b = some o) : Gr T H H1 := ⟨LamX.ExtN.of e, fun t => t.ext e⟩
theorem Gr.new {p : Addr} {o : HO} (h : H p = none) : Gr T H (upd H p o) := Gr.of fun b u e => by rw [upd_ne (ne_of_none e h)]; exact e
theorem Gr.sty (g : Gr T H H1) : Sty H H1 := ⟨fun a xs e => g.1 a _ e fun _ z => by (cases z), fun a xs e => g.1 a _ e fun _ z => by (cases z)⟩
theorem Gr.tups (g : Gr T H H1) {a : Addr} {xs : List V} (h : H a = some (.tup xs)) : H1 a = some (.tup xs) := g.1 a _ h fun _ z => by cases z
theorem Gr.lsts (g : Gr T H H1) {a : Addr} {xs : List V} (h : H a = some (.lst xs)) : H1 a = some (.lst xs) := g.1 a _ h fun _ z => by cases z
theorem Gr.dx (g : Gr T H H1) {v : V} {d : PyData} (h : Dx H v d) : Dx H1 v d := Dx.sty g.sty d v h
theorem Gr.dxA (g : Gr T H H1) {v : List V} {d : List PyData} (h : DxA H v d) : DxA H1 v d := DxA.sty g.sty d v h
theorem Gr.free (g : Gr T H H1) {a : Addr} (h : H1 a = none) (nt : ∀ ps, H a ≠ some (.tbl ps)) : H a = none := by
  cases e : H a with
  | none => rfl
  | some o =>
    have := g.1 a o e fun ps z => nt ps (by rw [e, z])
    rw [h] at this
    cases this
/-- the list at l (not known to H) is written -/
theorem Gr.mut {l : Addr} {xs : List V} {o : HO} (g : Gr T H H1) (h0 : H l = none) (h1 : H1 l = some (.lst xs)) : Gr T H (upd H1 l o) := by
  have ne : ∀ b u, H1 b = some u → (∀ ys, u ≠ .lst ys) → b ≠ l := fun b u e n z => by
    rw [z, h1] at e
    exact n xs (Option.some.inj e).symm
  refine ⟨fun b u e n => by rw [upd_ne (ne_of_none e h0)]; exact g.1 b u e n, fun t => ?_⟩
  intro p hp
  obtain ⟨rs, a1, a2, a3⟩ := g.2 t p hp
  refine ⟨rs, by rw [upd_ne (ne _ _ a1 fun _ z => by cases z)]; exact a1, a2, fun pos cv hc => ?_⟩
  obtain ⟨c, b1, b2⟩ := a3 pos cv hc
  exact ⟨c, b1, by rw [upd_ne (ne _ _ b2 fun ys z => by unfold LamX.CodeO at z; cases z)]; exact b2⟩
theorem stt_mut {l : Addr} {xs : List V} {o : HO} (h1 : H l = some (.lst xs)) : StT H (upd H l o) := fun a ys e => by
  rw [upd_ne (fun z => by rw [z, h1] at e; cases e)]
  exact e
theorem Gr.stt (g : Gr T H H1) : StT H H1 := g.sty.1
end

/-! ### what a reading evaluates to -/
section
variable (T : Tbl)
def ED (te : TE) (σ : L2.St) (H : Hp) (d : PyData) : Prop := ∀ H1, Gr T H H1 → ∀ Q : VK, (∀ v H2, Gr T H1 H2 → Dx H2 v d → Q v H2) → te σ H1 Q
/-- the very value -/
def EV (te : TE) (σ : L2.St) (H : Hp) (v : V) : Prop := ∀ H1, Gr T H H1 → ∀ Q : VK, (∀ H2, Gr T H1 H2 → Q v H2) → te σ H1 Q
def EDA (ta : TA) (σ : L2.St) (H : Hp) (ds : List PyData) : Prop := ∀ H1, Gr T H H1 → ∀ Q : List V → Hp → Prop, (∀ vs H2, Gr T H1 H2 → DxA H2 vs ds → Q vs H2) → ta σ H1 Q
def ET (tt : TT) (σ : L2.St) (H : Hp) (b : Bool) : Prop := ∀ H1, Gr T H H1 → ∀ Q : Bool → Hp → Prop, (∀ H2, Gr T H1 H2 → Q b H2) → tt σ H1 Q
def RD (t : TS) (σ : L2.St) (H : Hp) (r : PyData) : Prop := ∀ D : Ends, (∀ v H', Gr T H H' → Dx H' v r → D.rt v H') → t D σ H
/-- a promise on data -/
def spF (R : List PyData → PyData → Prop) : Sp := fun vs H Q _ => ∃ ds r, Tb T H ∧ DxA H vs ds ∧ R ds r ∧ ∀ v H', Gr T H H' → Dx H' v r → Q v H'
end
section
variable {T : Tbl} {K : PySem.W.Frag} {σ : L2.St} {H H' : Hp} {ta tb te : TE} {t u : TT} {d e r : PyData}
theorem ED.mono (g : Gr T H H') (h : ED T te σ H d) : ED T te σ H' d := fun H1 a Q q => h H1 (g.trans a) Q q
theorem EDA.mono {ts : TA} {ds : List PyData} (g : Gr T H H') (h : EDA T ts σ H ds) : EDA T ts σ H' ds := fun H1 a Q q => h H1 (g.trans a) Q q
theorem ET.mono {b : Bool} (g : Gr T H H') (h : ET T t σ H b) : ET T t σ H' b := fun H1 a Q q => h H1 (g.trans a) Q q
theorem ed_is (h : ED T te σ H d) (q : d = e) : ED T te σ H e := q ▸ h
theorem et_is {b c : Bool} (h : ET T t σ H b) (q : b = c) : ET T t σ H c := q ▸ h
theorem ed_var {i : Nat} {v : V} (h : σ[i]? = some (some v)) (hd : Dx H v d) : ED T (tVar i) σ H d := fun H1 g Q q => ⟨v, h, q v H1 (Gr.refl H1) (g.dx hd)⟩
theorem ev_var {i : Nat} {v : V} (h : σ[i]? = some (some v)) : EV T (tVar i) σ H v := fun H1 g Q q => ⟨v, h, q H1 (Gr.refl H1)⟩
theorem ed_int {i : Int} : ED T (tC (.int i)) σ H (.int i) := fun H1 _ Q q => q _ H1 (Gr.refl H1) (.int i)
theorem ed_str {i : Str} : ED T (tC (.str i)) σ H (.str i) := fun H1 _ Q q => q _ H1 (Gr.refl H1) (.str i)
theorem ed_bl {i : Bool} : ED T (tC (.bl i)) σ H (.bool i) := fun H1 _ Q q => q _ H1 (Gr.refl H1) (.bl i)
theorem eda_nil : EDA T tNil σ H [] := fun H1 _ Q q => q _ H1 (Gr.refl H1) .nil
theorem eda_cons {tr : TA} {ds : List PyData} (h : ED T ta σ H d) (hr : EDA T tr σ H ds) : EDA T (tCons ta tr) σ H (d :: ds) := fun H1 g Q q =>
  h H1 g _ fun v H2 g2 hv => hr H2 (g.trans g2) _ fun vs H3 g3 hvs => q _ H3 (g2.trans g3) (.cons (g3.dx hv) hvs)
theorem szl {n : Nat} (h : n ≤ 100000) : n ≤ sizeLine := Nat.le_trans h (by decide)
theorem ed_tup {ts : TA} {ds : List PyData} (h : EDA T ts σ H ds) (hl : ds.length ≤ 100000 := by exact Nat.le_of_ble_eq_true rfl) : ED T (tTup ts) σ H (.tuple ds) := fun H1 g Q q =>
  h H1 g _ fun vs H2 g2 hv => ⟨szl (by rw [hv.length]; exact hl), fun p hp => q _ _ (g2.trans (Gr.new hp)) (.tup upd_same ((Gr.new (T := T) hp).dxA hv))⟩
theorem ed_lst {ts : TA} {ds : List PyData} (h : EDA T ts σ H ds) (hl : ds.length ≤ 100000 := by exact Nat.le_of_ble_eq_true rfl) : ED T (tLst ts) σ H (.list ds) := fun H1 g Q q =>
  h H1 g _ fun vs H2 g2 hv => ⟨szl (by rw [hv.length]; exact hl), fun p hp => q _ _ (g2.trans (Gr.new hp)) (.lst upd_same ((Gr.new (T := T) hp).dxA hv))⟩
theorem atI_len {α β : Type} {xs : List α} {ys : List β} {i : Int} (hl : xs.length = ys.length) {y : β} (h : atI ys i = some y) : ∃ j : Nat, ys[j]? = some y ∧ ∀ x, xs[j]? = some x → atI xs i = some x := by
  unfold atI at h ⊢
  cases e : ixN ys.length i with
  | none => rw [e] at h; cases h
  | some j =>
    rw [e] at h
    refine ⟨j, h, fun x hx => ?_⟩
    rw [hl, e]
    exact hx
theorem ed_ixT {ds : List PyData} {i : Int} (h : ED T ta σ H (.tuple ds)) (hb : ED T tb σ H (.int i)) (hi : atI ds i = some d) : ED T (tOp (rIxT K) ta tb) σ H d := fun H1 g Q q =>
  h H1 g _ fun v H2 g2 hv => hb H2 (g.trans g2) _ fun w H3 g3 hw => by
    cases hv with
    | tup h1 h2 =>
      cases hw
      obtain ⟨j, a1, a2⟩ := atI_len h2.length hi
      obtain ⟨x, b1, b2⟩ := h2.get a1
      exact ⟨_, _, i, x, rfl, rfl, SqT.of (g3.tups h1), a2 x b1, q x H3 (g2.trans g3) (g3.dx b2)⟩
theorem ed_ixL {ds : List PyData} {i : Int} (h : ED T ta σ H (.list ds)) (hb : ED T tb σ H (.int i)) (hi : atI ds i = some d) : ED T (tOp (rIxL K) ta tb) σ H d := fun H1 g Q q =>
  h H1 g _ fun v H2 g2 hv => hb H2 (g.trans g2) _ fun w H3 g3 hw => by
    cases hv with
    | lst h1 h2 =>
      cases hw
      obtain ⟨j, a1, a2⟩ := atI_len h2.length hi
      obtain ⟨x, b1, b2⟩ := h2.get a1
      exact ⟨_, _, i, x, rfl, rfl, SqL.of (g3.lsts h1), a2 x b1, q x H3 (g2.trans g3) (g3.dx b2)⟩
theorem ed_I0 {f : Int → Int → V} {i j : Int} (h : ED T ta σ H (.int i)) (hb : ED T tb σ H (.int j)) (hz : ∀ H, Dx H (f i j) d) : ED T (tOp (rI0 f) ta tb) σ H d := fun H1 g Q q =>
  h H1 g _ fun v H2 g2 hv => hb H2 (g.trans g2) _ fun w H3 g3 hw => by
    cases hv; cases hw
    exact ⟨i, j, rfl, rfl, q _ H3 (g2.trans g3) (hz H3)⟩
theorem ed_I {C : Int → Int → Prop} {f : Int → Int → V} {i j : Int} (h : ED T ta σ H (.int i)) (hb : ED T tb σ H (.int j)) (hc : C i j) (hz : ∀ H, Dx H (f i j) d) : ED T (tOp (rI C f) ta tb) σ H d := fun H1 g Q q =>
  h H1 g _ fun v H2 g2 hv => hb H2 (g.trans g2) _ fun w H3 g3 hw => by
    cases hv; cases hw
    exact ⟨i, j, rfl, rfl, hc, q _ H3 (g2.trans g3) (hz H3)⟩
theorem ed_add {i j : Int} (h : ED T ta σ H (.int i)) (hb : ED T tb σ H (.int j)) : ED T (tOp (rI0 fun i j => .int (i + j)) ta tb) σ H (.int (i + j)) := ed_I0 h hb fun _ => .int _
theorem ed_sub {i j : Int} (h : ED T ta σ H (.int i)) (hb : ED T tb σ H (.int j)) : ED T (tOp (rI0 fun i j => .int (i - j)) ta tb) σ H (.int (i - j)) := ed_I0 h hb fun _ => .int _
theorem ed_ge {i j : Int} (h : ED T ta σ H (.int i)) (hb : ED T tb σ H (.int j)) : ED T (tOp (rI0 fun i j => .bl (decide (j ≤ i))) ta tb) σ H (.bool (decide (j ≤ i))) := ed_I0 h hb fun _ => .bl _
theorem ed_le {i j : Int} (h : ED T ta σ H (.int i)) (hb : ED T tb σ H (.int j)) : ED T (tOp (rI0 fun i j => .bl (decide (i ≤ j))) ta tb) σ H (.bool (decide (i ≤ j))) := ed_I0 h hb fun _ => .bl _
theorem ed_gt {i j : Int} (h : ED T ta σ H (.int i)) (hb : ED T tb σ H (.int j)) : ED T (tOp (rI0 fun i j => .bl (decide (j < i))) ta tb) σ H (.bool (decide (j < i))) := ed_I0 h hb fun _ => .bl _
theorem ed_lt {i j : Int} (h : ED T ta σ H (.int i)) (hb : ED T tb σ H (.int j)) : ED T (tOp (rI0 fun i j => .bl (decide (i < j))) ta tb) σ H (.bool (decide (i < j))) := ed_I0 h hb fun _ => .bl _
theorem dec_iff {p q : Prop} [Decidable p] [Decidable q] (h : p ↔ q) : decide p = decide q := by
  by_cases hp : p
  · rw [decide_eq_true hp, decide_eq_true (h.mp hp)]
  · rw [decide_eq_false hp, decide_eq_false (fun z => hp (h.mpr z))]
theorem ed_eqS {a b : Str} (h : ED T ta σ H (.str a)) (hb : ED T tb σ H (.str b)) : ED T (tOp rEq ta tb) σ H (.bool (decide (a = b))) := fun H1 g Q q =>
  h H1 g _ fun v H2 g2 hv => hb H2 (g.trans g2) _ fun w H3 g3 hw => by
    cases hv; cases hw
    refine ⟨rfl, ?_⟩
    rw [show decide (V.str a = V.str b) = decide (a = b) from dec_iff ⟨fun z => V.str.inj z, fun z => congrArg _ z⟩]
    exact q _ H3 (g2.trans g3) (.bl _)
theorem ed_neS {a b : Str} (h : ED T ta σ H (.str a)) (hb : ED T tb σ H (.str b)) : ED T (tOp rNe ta tb) σ H (.bool (!decide (a = b))) := fun H1 g Q q =>
  h H1 g _ fun v H2 g2 hv => hb H2 (g.trans g2) _ fun w H3 g3 hw => by
    cases hv; cases hw
    refine ⟨rfl, ?_⟩
    rw [show decide (V.str a = V.str b) = decide (a = b) from dec_iff ⟨fun z => V.str.inj z, fun z => congrArg _ z⟩]
    exact q _ H3 (g2.trans g3) (.bl _)
theorem ed_eqI {a b : Int} (h : ED T ta σ H (.int a)) (hb : ED T tb σ H (.int b)) : ED T (tOp rEq ta tb) σ H (.bool (decide (a = b))) := fun H1 g Q q =>
  h H1 g _ fun v H2 g2 hv => hb H2 (g.trans g2) _ fun w H3 g3 hw => by
    cases hv; cases hw
    refine ⟨rfl, ?_⟩
    rw [show decide (V.int a = V.int b) = decide (a = b) from dec_iff ⟨fun z => V.int.inj z, fun z => congrArg _ z⟩]
    exact q _ H3 (g2.trans g3) (.bl _)
theorem ed_eqD (h : ED T ta σ H d) (hb : ED T tb σ H e) (sd : SeqAt.shaped d = true) (se : SeqAt.shaped e = true) : ED T (tOp (rEqD K) ta tb) σ H (.bool (PyData.eqv d e)) := fun H1 g Q q =>
  h H1 g _ fun v H2 g2 hv => hb H2 (g.trans g2) _ fun w H3 g3 hw => ⟨d, e, Dx.to d v (g3.dx hv), Dx.to e w hw, sd, se, q _ H3 (g2.trans g3) (.bl _)⟩
theorem ed_neD (h : ED T ta σ H d) (hb : ED T tb σ H e) (sd : SeqAt.shaped d = true) (se : SeqAt.shaped e = true) : ED T (tOp (rNeD K) ta tb) σ H (.bool (!PyData.eqv d e)) := fun H1 g Q q =>
  h H1 g _ fun v H2 g2 hv => hb H2 (g.trans g2) _ fun w H3 g3 hw => ⟨d, e, Dx.to d v (g3.dx hv), Dx.to e w hw, sd, se, q _ H3 (g2.trans g3) (.bl _)⟩
theorem et_test {b : Bool} (h : ED T te σ H (.bool b)) : ET T (tTest te) σ H b := fun H1 g Q q => h H1 g _ fun v H2 g2 hv => by cases hv; exact ⟨b, rfl, q H2 g2⟩
theorem et_B {b : Bool} (h : ED T te σ H (.bool b)) : ET T (tB te) σ H b := fun H1 g Q q => h H1 g _ fun v H2 g2 hv => by cases hv; exact ⟨b, rfl, q H2 g2⟩
theorem et_and {a b : Bool} (h1 : ET T t σ H a) (h2 : a = true → ET T u σ H b) : ET T (tAnd t u) σ H (a && b) := fun H1 g Q q => h1 H1 g _ fun H2 g2 => by
  cases a with
  | true => rw [if_pos rfl]; exact h2 rfl H2 (g.trans g2) _ fun H3 g3 => q H3 (g2.trans g3)
  | false => rw [if_neg Bool.false_ne_true]; exact q H2 g2
theorem et_or {a b : Bool} (h1 : ET T t σ H a) (h2 : a = false → ET T u σ H b) : ET T (tOr t u) σ H (a || b) := fun H1 g Q q => h1 H1 g _ fun H2 g2 => by
  cases a with
  | true => rw [if_pos rfl]; exact q H2 g2
  | false => rw [if_neg Bool.false_ne_true]; exact h2 rfl H2 (g.trans g2) _ fun H3 g3 => q H3 (g2.trans g3)
theorem et_not {a : Bool} (h1 : ET T t σ H a) : ET T (tNot t) σ H (!a) := fun H1 g _ q => h1 H1 g _ fun H2 g2 => q H2 g2
theorem ed_if {b : Bool} (h : ET T t σ H b) (h1 : b = true → ED T ta σ H d) (h2 : b = false → ED T tb σ H d) : ED T (tIf t ta tb) σ H d := fun H1 g Q q => h H1 g _ fun H2 g2 => by
  cases b with
  | true => rw [if_pos rfl]; exact h1 rfl H2 (g.trans g2) _ fun v H3 g3 hv => q v H3 (g2.trans g3) hv
  | false => rw [if_neg Bool.false_ne_true]; exact h2 rfl H2 (g.trans g2) _ fun v H3 g3 hv => q v H3 (g2.trans g3) hv
theorem ed_andV {a b : Bool} (h1 : ED T ta σ H (.bool a)) (h2 : a = true → ED T tb σ H (.bool b)) : ED T (tAndV ta tb) σ H (.bool (a && b)) := fun H1 g Q q => h1 H1 g _ fun v H2 g2 hv => by
  cases hv
  refine ⟨a, rfl, ?_⟩
  cases a with
  | true => rw [if_pos rfl]; exact h2 rfl H2 (g.trans g2) _ fun v H3 g3 hv => q v H3 (g2.trans g3) hv
  | false => rw [if_neg Bool.false_ne_true]; exact q _ H2 g2 (.bl _)
theorem ed_notV {a : Bool} (h1 : ED T ta σ H (.bool a)) : ED T (tNotV ta) σ H (.bool (!a)) := fun H1 g Q q => h1 H1 g _ fun v H2 g2 hv => by
  cases hv
  exact ⟨a, rfl, q _ H2 g2 (.bl _)⟩
theorem ed_call {R : List PyData → PyData → Prop} {dvs : List V} {dd ds : List PyData} {E : XK} {ts : TA} (hT : Tb T H) (h : EDA T ts σ H ds) (hd : ∀ H, DxA H dvs dd) (hR : R (ds ++ dd) r) : ED T (tCall (spF T R) dvs E ts) σ H r := fun H1 g Q q =>
  h H1 g _ fun vs H2 g2 hv => ⟨ds ++ dd, r, (g.trans g2).2 hT, hv.append (hd H2), hR, fun v H3 g3 hr => q v H3 (g2.trans g3) hr⟩
/-! statements -/
variable {tz tu : TS}
theorem rd_ret (h : ED T te σ H r) : RD T (tRet te) σ H r := fun D q => h H (Gr.refl H) _ q
theorem RD.mono (g : Gr T H H') {tz : TS} (h : RD T tz σ H' r) : ∀ D : Ends, (∀ v H2, Gr T H H2 → Dx H2 v r → D.rt v H2) → tz D σ H' := fun D q => h D fun v H2 g2 hv => q v H2 (g.trans g2) hv
theorem rd_asg {i : Nat} (h : ED T te σ H d) (k : ∀ v H1, Gr T H H1 → Dx H1 v d → RD T tz (σ.set i (some v)) H1 r) : RD T (tSeq (tAsg te (gName i)) tz) σ H r := fun D q =>
  h H (Gr.refl H) _ fun v H1 g hv => k v H1 g hv D fun w H2 g2 hw => q w H2 (g.trans g2) hw
theorem rd_when {b : Bool} (h : ET T t σ H b) (h1 : b = true → ∀ H1, Gr T H H1 → RD T tu σ H1 r) (h2 : b = false → ∀ H1, Gr T H H1 → RD T tz σ H1 r) : RD T (tSeq (tIfS t tu tNext) tz) σ H r := fun D q =>
  h H (Gr.refl H) _ fun H1 g => by
    cases b with
    | true => rw [if_pos rfl]; exact h1 rfl H1 g _ fun w H2 g2 hw => q w H2 (g.trans g2) hw
    | false => rw [if_neg Bool.false_ne_true]; exact h2 rfl H1 g _ fun w H2 g2 hw => q w H2 (g.trans g2) hw
theorem rd_ifE {b : Bool} (h : ET T t σ H b) (h1 : b = true → ∀ H1, Gr T H H1 → RD T tu σ H1 r) (h2 : b = false → ∀ H1, Gr T H H1 → RD T tz σ H1 r) : RD T (tIfS t tu tz) σ H r := fun D q =>
  h H (Gr.refl H) _ fun H1 g => by
    cases b with
    | true => rw [if_pos rfl]; exact h1 rfl H1 g _ fun w H2 g2 hw => q w H2 (g.trans g2) hw
    | false => rw [if_neg Bool.false_ne_true]; exact h2 rfl H1 g _ fun w H2 g2 hw => q w H2 (g.trans g2) hw
end
/-- a callee's name, its address, how it binds -/
structure Cal (K : PySem.W.Frag) (mg : Str → Option Value) (x : Str) (f : Addr) (fd : FuncData) (ps : List Str) : Prop where
  m : mg x = some (.ref f)
  kp : PySem.W.keepIn K (.ref f) = true
  b : Binds K fd ps []
section
variable {P : Program} {w : World} {K : PySem.W.Frag} {mg : Str → Option Value} {base : Heap} {T : Tbl}
/-- a def whose promise is on data -/
theorem mkF {x qual : Str} {st : Stmt} {f : Addr} {fd : FuncData} {N ps : List Str} {k : Nat} {R : List PyData → PyData → Prop} (F : Fun K x qual st f fd) (S : FnScope N ps (defScope st)) (len : ∀ ds r, R ds r → ds.length = ps.length)
    (hbody : ∀ (cdv : Value) (A : Around) (outer : List Env) (s : Shared) (H : Hp) (vs : List V) (E : XK) (ds : List PyData) (r : PyData), Room k (A.deeper (envOfC qual (defScope st) s.heap.objs.size f cdv)) → R ds r → DxA H vs ds → Tb T H →
      ∃ t, PSs (cxOf CX0 P w K mg base N qual (defScope st) f cdv A outer s H E).nox (defBody st) t ∧ RD T t (L2.start N vs) H r) : FnOk P w K mg base CX0 (k + 1) f fd ps (spF T R) := by
  refine F.ok S (fun vs H Q E h => ?_) (fun cdv A outer s H vs Q E hr h => ?_)
  · obtain ⟨ds, r, _, h1, h2, _⟩ := h
    rw [h1.length]
    exact len ds r h2
  obtain ⟨ds, r, hT, h1, h2, q⟩ := h
  obtain ⟨t, ht, hd⟩ := hbody cdv A outer s H vs E ds r hr h2 h1 hT
  exact ⟨t, ht, hd _ q⟩
theorem spF_imp {R R' : List PyData → PyData → Prop} {CX : CXT} {k : Nat} {f : Addr} {fd : FuncData} {ps : List Str} (F : FnOk P w K mg base CX k f fd ps (spF T R)) (h : ∀ ds r, R' ds r → R ds r) : FnOk P w K mg base CX k f fd ps (spF T R') :=
  F.imp fun vs H Q E ⟨ds, r, a, b, c, q⟩ => ⟨ds, r, a, b, h _ _ c, q⟩
end
end K1
namespace K1
open PySem PySem.Spec PyProof.Rows L2
/-! ### more -/
section
variable {T : Tbl} {K : PySem.W.Frag} {σ : L2.St} {H H' : Hp} {ta tb te : TE} {t u : TT} {d e r : PyData}
theorem inV_str (s : Str) : ∀ ss : List Str, inV (.str s) (ss.map V.str) = decide (s ∈ ss)
  | [] => by simp [inV]
  | x :: ss => by
    have ih := inV_str s ss
    unfold inV at ih ⊢
    rw [List.map_cons, List.any_cons, ih]
    show ((x == s) || decide (s ∈ ss)) = decide (s ∈ x :: ss)
    rw [Bool.eq_iff_iff]
    simp only [Bool.or_eq_true, beq_iff_eq, decide_eq_true_eq, List.mem_cons]
    exact ⟨fun h => h.elim (fun z => .inl z.symm) .inr, fun h => h.elim (fun z => .inl z.symm) .inr⟩
theorem dxA_strs : ∀ {ss : List Str} {vs : List V}, DxA H vs (ss.map PyData.str) → vs = ss.map V.str
  | [], _, h => by cases h; rfl
  | s :: ss, _, h => by
    cases h with
    | cons a b =>
      cases a
      rw [dxA_strs b]
      rfl
theorem flat_strs (ss : List Str) : (ss.map V.str).all flatV = true := by
  induction ss with
  | nil => rfl
  | cons s ss ih => rw [List.map_cons, List.all_cons, ih]; rfl
theorem ed_inT {a : Str} (ss : List Str) (h : ED T ta σ H (.str a)) (hb : ED T tb σ H (.tuple (ss.map .str))) : ED T (tOp (rIn K false) ta tb) σ H (.bool (decide (a ∈ ss))) := fun H1 g Q q =>
  h H1 g _ fun v H2 g2 hv => hb H2 (g.trans g2) _ fun w H3 g3 hw => by
    cases hv
    cases hw with
    | tup h1 h2 =>
      rw [dxA_strs h2] at h1
      refine ⟨_, _, rfl, .inr (SqT.of h1), rfl, flat_strs ss, ?_⟩
      show Q (.bl (inV (.str a) (ss.map V.str))) H3
      rw [inV_str]
      exact q _ H3 (g2.trans g3) (.bl _)
theorem ed_inL {a : Str} (ss : List Str) (h : ED T ta σ H (.str a)) (hb : ED T tb σ H (.list (ss.map .str))) : ED T (tOp (rIn K false) ta tb) σ H (.bool (decide (a ∈ ss))) := fun H1 g Q q =>
  h H1 g _ fun v H2 g2 hv => hb H2 (g.trans g2) _ fun w H3 g3 hw => by
    cases hv
    cases hw with
    | lst h1 h2 =>
      rw [dxA_strs h2] at h1
      refine ⟨_, _, rfl, .inl (SqL.of h1), rfl, flat_strs ss, ?_⟩
      show Q (.bl (inV (.str a) (ss.map V.str))) H3
      rw [inV_str]
      exact q _ H3 (g2.trans g3) (.bl _)
end
section
variable {X : Cx}
/-- x[c], x in slot i, c written -/
theorem pxt (i : Nat) {x : Str} {c : Int} {j : Nat} {pos p2 p3 : Pos} (hN : X.N[i]? = some x := by rfl) (hv : Vis X.env.scope x := by first | exact Or.inl rfl | exact Or.inr (Or.inl rfl) | exact Or.inr (Or.inr rfl)) (hd : (x == ("__debug__" : Str)) = false := by decide)
    (hcd : (x == ("__classdict__" : Str)) = false := by decide) : PE X (.Subscript (.Name x pos) (.Constant (.int c) j p2) p3) (tOp (rIxT X.K) (tVar i) (tC (.int c))) := pe_ix ix_tup (pv i hN hv hd hcd) pe_int (fun _ _ => rfl)
end
section
variable {T : Tbl} {K : PySem.W.Frag} {σ : L2.St} {H H' : Hp} {d : PyData}
theorem ed_x {i : Nat} {v : V} {c : Int} {ds : List PyData} (h : σ[i]? = some (some v)) (hd : Dx H v (.tuple ds)) (hi : atI ds c = some d) : ED T (tOp (rIxT K) (tVar i) (tC (.int c))) σ H d := ed_ixT (ed_var h hd) ed_int hi
end
theorem dxA1 {H : Hp} {vs : List V} {d : PyData} (h : DxA H vs [d]) : ∃ v, vs = [v] ∧ Dx H v d := by
  cases h with | cons a b => cases b; exact ⟨_, rfl, a⟩
theorem dxA2 {H : Hp} {vs : List V} {d e : PyData} (h : DxA H vs [d, e]) : ∃ v w, vs = [v, w] ∧ Dx H v d ∧ Dx H w e := by
  cases h with | cons a b => obtain ⟨w, rfl, hw⟩ := dxA1 b; exact ⟨_, w, rfl, a, hw⟩
theorem dxA3 {H : Hp} {vs : List V} {d e f : PyData} (h : DxA H vs [d, e, f]) : ∃ v w u, vs = [v, w, u] ∧ Dx H v d ∧ Dx H w e ∧ Dx H u f := by
  cases h with | cons a b => obtain ⟨w, u, rfl, hw, hu⟩ := dxA2 b; exact ⟨_, w, u, rfl, a, hw, hu⟩
section
variable {T : Tbl} {K : PySem.W.Frag} {σ : L2.St} {H H' : Hp} {te : TE} {d : PyData} {D : Ends}
theorem lszl {n : Nat} (h : n < 100000) : n < sizeLine := Nat.lt_of_lt_of_le h (by decide)
/-- xs.append(e), xs in slot i -/
theorem s_app {i : Nat} {l : Addr} {xs : List V} (hl : σ[i]? = some (some (.ref l))) (hH : H l = some (.lst xs)) (he : ED T te σ H d) (hz : xs.length < 100000) (k : ∀ v H1, Gr T H H1 → Dx H1 v d → D.nx σ (upd H1 l (.lst (xs ++ [v])))) :
    tDrop (tBM K "list" rAppend (tVar i) (tCons te tNil)) D σ H :=
  ⟨_, hl, .inl ⟨rfl, _, SqL.of hH⟩, he H (Gr.refl H) _ fun v H1 g hv => ⟨l, xs, v, rfl, rfl, g.lsts hH, lszl hz, k v H1 g hv⟩⟩
theorem s_set {i : Nat} (h : ED T te σ H d) (k : ∀ v H1, Gr T H H1 → Dx H1 v d → D.nx (σ.set i (some v)) H1) : tAsg te (gName i) D σ H := h H (Gr.refl H) _ fun v H1 g hv => k v H1 g hv
/-- while xs: -/
theorem t_list {i : Nat} {l : Addr} {xs : List V} {Q : Bool → Hp → Prop} (hl : σ[i]? = some (some (.ref l))) (hH : H l = some (.lst xs)) (k : Q (!xs.isEmpty) H) : tVar i σ H fun x H' => ∃ k, TruV K x H' k ∧ Q k H' :=
  ⟨_, hl, !xs.isEmpty, .inl ⟨xs, SqL.of hH, rfl⟩, k⟩
end
theorem dxA_snoc {H : Hp} : ∀ {vs : List V} {ds : List PyData} {d : PyData}, DxA H vs (ds ++ [d]) → ∃ us v, vs = us ++ [v] ∧ DxA H us ds ∧ Dx H v d
  | _, [], _, h => by
    obtain ⟨v, rfl, hv⟩ := dxA1 h
    exact ⟨[], v, rfl, .nil, hv⟩
  | _, e :: ds, _, h => by
    cases h with
    | cons a b =>
      obtain ⟨us, v, rfl, h1, h2⟩ := dxA_snoc b
      exact ⟨_ :: us, v, rfl, .cons a h1, h2⟩
theorem nlA_append : ∀ (xs ys : List PyData), nlA (xs ++ ys) = (nlA xs && nlA ys)
  | [], ys => by simp [nlA]
  | x :: xs, ys => by
    show (nl x && nlA (xs ++ ys)) = ((nl x && nlA xs) && nlA ys)
    rw [nlA_append, Bool.and_assoc]
theorem nlA_all {xs : List PyData} (h : ∀ x ∈ xs, nl x = true) : nlA xs = true := by
  induction xs with
  | nil => rfl
  | cons x xs ih => show (nl x && nlA xs) = true; rw [h x List.mem_cons_self, ih fun y hy => h y (List.mem_cons_of_mem _ hy)]; rfl
theorem nl_encL (l : Lf) : nl (encL l) = true := by cases l <;> rfl
theorem nl_enc : ∀ t : Tm, nl (enc t) = true
  | .var n => rfl
  | .leaf l => nl_encL l
  | .bind p x k b => by show (true && (true && (nl (enc k) && (nl (enc b) && true)))) = true; rw [nl_enc k, nl_enc b]; rfl
  | .app f a => by show (true && (nl (enc f) && (nl (enc a) && true))) = true; rw [nl_enc f, nl_enc a]; rfl
  | .letE x k v b => by show (true && (true && (nl (enc k) && (nl (enc v) && (nl (enc b) && true))))) = true; rw [nl_enc k, nl_enc v, nl_enc b]; rfl
section
variable {T : Tbl} {H H1 H2 : Hp}
/-- an object at l (not known to H; a list, a dict) is written -/
theorem Gr.mutO {l : Addr} {o0 o : HO} (g : Gr T H H1) (h0 : H l = none) (h1 : H1 l = some o0) (n1 : ∀ ps, o0 ≠ .tbl ps) (n2 : ∀ φ, o0 ≠ .ext φ) : Gr T H (upd H1 l o) := by
  have ne : ∀ b u, H1 b = some u → u ≠ o0 → b ≠ l := fun b u e n z => by
    rw [z, h1] at e
    exact n (Option.some.inj e).symm
  refine ⟨fun b u e n => by rw [upd_ne (ne_of_none e h0)]; exact g.1 b u e n, fun t => ?_⟩
  intro p hp
  obtain ⟨rs, a1, a2, a3⟩ := g.2 t p hp
  refine ⟨rs, by rw [upd_ne (ne _ _ a1 (n1 _).symm)]; exact a1, a2, fun pos cv hc => ?_⟩
  obtain ⟨c, b1, b2⟩ := a3 pos cv hc
  exact ⟨c, b1, by rw [upd_ne (ne _ _ b2 fun z => by unfold LamX.CodeO at z; exact n2 _ z.symm)]; exact b2⟩
theorem stt_mutO {l : Addr} {o0 o : HO} (h1 : H l = some o0) (n : ∀ xs, o0 ≠ .tup xs) : StT H (upd H l o) := fun a ys e => by
  rw [upd_ne (fun z => by rw [z, h1] at e; exact n _ (Option.some.inj e))]
  exact e
end
/-- a callee with defaults -/
structure CalD (K : PySem.W.Frag) (mg : Str → Option Value) (x : Str) (f : Addr) (fd : FuncData) (ps : List Str) (dvs : List V) (ds : List Value) : Prop where
  m : mg x = some (.ref f)
  kp : PySem.W.keepIn K (.ref f) = true
  v : Vals dvs ds
  b : Binds K fd ps ds
section
variable {P : Program} {w : World} {K : PySem.W.Frag} {mg : Str → Option Value} {base : Heap} {T : Tbl}
theorem mkFD {x qual : Str} {st : Stmt} {dvs : List V} {f : Addr} {fd : FuncData} {N ps : List Str} {k : Nat} {R : List PyData → PyData → Prop} (F : FunD K x qual (defArgs st) (defBody st) (defScope st) dvs [] f fd) (S : FnScope N ps (defScope st)) (len : ∀ ds r, R ds r → ds.length = ps.length)
    (hbody : ∀ (cdv : Value) (A : Around) (outer : List Env) (s : Shared) (H : Hp) (vs : List V) (E : XK) (ds : List PyData) (r : PyData), Room k (A.deeper (envOfC qual (defScope st) s.heap.objs.size f cdv)) → R ds r → DxA H vs ds → Tb T H →
      ∃ t, PSs (cxOf CX0 P w K mg base N qual (defScope st) f cdv A outer s H E).nox (defBody st) t ∧ RD T t (L2.start N vs) H r) : FnOk P w K mg base CX0 (k + 1) f fd ps (spF T R) := by
  refine F.ok S (fun vs H Q E h => ?_) (fun cdv A outer s H vs Q E hr h => ?_)
  · obtain ⟨ds, r, _, h1, h2, _⟩ := h
    rw [h1.length]
    exact len ds r h2
  obtain ⟨ds, r, hT, h1, h2, q⟩ := h
  obtain ⟨t, ht, hd⟩ := hbody cdv A outer s H vs E ds r hr h2 h1 hT
  exact ⟨t, ht.nox, hd _ q⟩
end
/-- a def whose code object is told -/
structure FunC (K : PySem.W.Frag) (x qual : Str) (st : Stmt) (c f : Addr) (fd : FuncData) : Prop where
  ex : ∃ (oc : Value) (od : Option Addr) (dV kV doc pm : Value) (an : Option Addr) (ct : Value) (osl : Array (Option Value)),
    fd = PySem.W.fnOf x qual (defArgs st) (defBody st) (defScope st) dV kV doc pm an (.ref c) ct ∧ K.lookup f = some ⟨oc, od, .func fd, osl⟩ ∧ PySem.W.codeIn K (.ref c) qual = true
section
variable {P : Program} {w : World} {K : PySem.W.Frag} {mg : Str → Option Value} {base : Heap} {T : Tbl}
theorem mkFC {x qual : Str} {st : Stmt} {c f : Addr} {fd : FuncData} {N ps : List Str} {k : Nat} {R : List PyData → PyData → Prop} (F : FunC K x qual st c f fd) (S : FnScope N ps (defScope st)) (len : ∀ ds r, R ds r → ds.length = ps.length)
    (hbody : ∀ (A : Around) (outer : List Env) (s : Shared) (H : Hp) (vs : List V) (E : XK) (ds : List PyData) (r : PyData), Room k (A.deeper (envOfC qual (defScope st) s.heap.objs.size f (.ref c))) → R ds r → DxA H vs ds → Tb T H →
      ∃ t, PSs (cxOf CX0 P w K mg base N qual (defScope st) f (.ref c) A outer s H E).nox (defBody st) t ∧ RD T t (L2.start N vs) H r) : FnOk P w K mg base CX0 (k + 1) f fd ps (spF T R) := by
  obtain ⟨oc, od, dV, kV, doc, pm, an, ct, osl, rfl, lk, hcd⟩ := F.ex
  refine fn_of lk hcd S (fun vs H Q E h => ?_) (fun A outer s H vs Q E hr h => ?_)
  · obtain ⟨ds, r, _, h1, h2, _⟩ := h
    rw [h1.length]
    exact len ds r h2
  obtain ⟨ds, r, hT, h1, h2, q⟩ := h
  obtain ⟨t, ht, hd⟩ := hbody A outer s H vs E ds r hr h2 h1 hT
  exact ⟨t, ht.nox, hd _ q⟩
end
end K1
namespace K1
open PySem PySem.Spec PyProof.Rows L2
/-! ### parts -/
abbrev sParts : Stmt := topS 7
/-- a branch that is never taken -/
def tNever : TS := fun _ _ _ => False
theorem pss_never {X : Cx} {p : List Stmt} : PSs X p tNever := ⟨fun _ _ _ _ _ _ h => h.elim⟩
theorem scParts : FnScope ["term", "word", "one"] ["term"] (defScope sParts) := ⟨rfl, rfl, rfl, by decide +kernel, rfl, by decide +kernel, by decide +kernel⟩
/-- a node, its parts any data -/
inductive NodeD : PyData → Prop
  | one (w : Str) (x : PyData) : w ≠ "app" → w ≠ "pi" → w ≠ "lam" → w ≠ "let" → w ≠ "meta" → NodeD (.tuple [.str w, x])
  | two (w : Str) (x y : PyData) : w ≠ "app" → w ≠ "pi" → w ≠ "lam" → w ≠ "let" → w ≠ "meta" → NodeD (.tuple [.str w, x, y])
  | bind (p : Bool) (x k b : PyData) : NodeD (.tuple [.str (bw p), x, k, b])
  | app (f a : PyData) : NodeD (.tuple [.str "app", f, a])
  | letE (x k v b : PyData) : NodeD (.tuple [.str "let", x, k, v, b])
def pairsD : PyData → List PyData
  | .tuple [.str w, a, b] => if w = "app" then [.tuple [a, .int 0], .tuple [b, .int 0]] else []
  | .tuple [.str w, _, k, b] => [.tuple [k, .int 0], .tuple [b, .int 1]]
  | .tuple [.str w, _, k, v, b] => [.tuple [k, .int 0], .tuple [v, .int 0], .tuple [b, .int 1]]
  | _ => []
def rParts : List PyData → PyData → Prop := fun ds r => ∃ d, ds = [d] ∧ NodeD d ∧ r = .tuple (pairsD d)
section
variable {P : Program} {w : World} {K : PySem.W.Frag} {mg : Str → Option Value} {base : Heap} {T : Tbl} {f : Addr} {fd : FuncData}
theorem ok_parts (F : Fun K "parts" "parts" sParts f fd) : FnOk P w K mg base CX0 1 f fd ["term"] (spF T rParts) := by
  refine mkF F scParts (fun ds r ⟨d, e, _⟩ => by rw [e]; rfl) (fun cdv A outer s H vs E ds r hr hR hd hT => ?_)
  obtain ⟨d, rfl, hn, rfl⟩ := hR
  obtain ⟨v, rfl, hv⟩ := dxA1 hd
  refine ⟨_, pss_cons (ps_set (i := 1) scParts.nd rfl (.inl rfl) (pxt 0))
    (pss_cons (ps_if (pt_cmpR op_eq (pv 1) pe_str (nomark _)) (pss_one (ps_ret (pe_tup (pa_cons (pe_tup (pa_cons (pxt 0) (pa_cons pe_int pa_nil))) (pa_cons (pe_tup (pa_cons (pxt 0) (pa_cons pe_int pa_nil))) pa_nil))))) pss_nil)
    (pss_cons (ps_if (pt_cmpR op_in_seq (pv 1) (pe_tup (pa_cons pe_str (pa_cons pe_str pa_nil))) (by rfl)) (pss_one (ps_ret (pe_tup (pa_cons (pe_tup (pa_cons (pxt 0) (pa_cons pe_int pa_nil))) (pa_cons (pe_tup (pa_cons (pxt 0) (pa_cons pe_int pa_nil))) pa_nil))))) pss_nil)
    (pss_cons (ps_if (pt_cmpR op_eq (pv 1) pe_str (nomark _)) (pss_one (ps_ret (pe_tup (pa_cons (pe_tup (pa_cons (pxt 0) (pa_cons pe_int pa_nil))) (pa_cons (pe_tup (pa_cons (pxt 0) (pa_cons pe_int pa_nil))) (pa_cons (pe_tup (pa_cons (pxt 0) (pa_cons pe_int pa_nil))) pa_nil)))))) pss_nil)
    (pss_cons (ps_if (pt_cmpR op_eq (pv 1) pe_str (nomark _)) pss_never pss_nil)
    (pss_one (ps_ret (pe_tup pa_nil))))))), ?_⟩
  obtain ⟨wd, rest, rfl⟩ : ∃ wd rest, d = .tuple (.str wd :: rest) := by cases hn <;> exact ⟨_, _, rfl⟩
  refine rd_asg (ed_x rfl hv (atI_nat (j := 0) rfl)) fun v1 H1 g1 hw => ?_
  refine rd_when (et_test (ed_eqS (ed_var rfl hw) ed_str)) (fun hc H2 g2 => ?_) (fun hc H2 g2 => ?_)
  · have hv2 := (g1.trans g2).dx hv
    cases hn with
    | app f a => exact rd_ret (ed_tup (eda_cons (ed_tup (eda_cons (ed_x rfl hv2 rfl) (eda_cons ed_int eda_nil))) (eda_cons (ed_tup (eda_cons (ed_x rfl hv2 rfl) (eda_cons ed_int eda_nil))) eda_nil)))
    | one _ x h1 => exact absurd (of_decide_eq_true hc) h1
    | two _ x y h1 => exact absurd (of_decide_eq_true hc) h1
    | bind p x k b => cases p <;> cases hc
    | letE x k v b => cases hc
  refine rd_when (et_test (ed_inT ["pi", "lam"] (ed_var rfl (g2.dx hw)) (ed_tup (eda_cons ed_str (eda_cons ed_str eda_nil))))) (fun hc3 H3 g3 => ?_) (fun hc3 H3 g3 => ?_)
  · have hv2 := ((g1.trans g2).trans g3).dx hv
    have hm := of_decide_eq_true hc3
    cases hn with
    | app f a => exact absurd hm (by decide)
    | one _ x h1 h2 h3 => simp at hm; exact (hm.elim h2 h3).elim
    | two _ x y h1 h2 h3 => simp at hm; exact (hm.elim h2 h3).elim
    | bind p x k b => exact rd_ret (ed_tup (eda_cons (ed_tup (eda_cons (ed_x rfl hv2 rfl) (eda_cons ed_int eda_nil))) (eda_cons (ed_tup (eda_cons (ed_x rfl hv2 rfl) (eda_cons ed_int eda_nil))) eda_nil)))
    | letE x k v b => exact absurd hm (by decide)
  refine rd_when (et_test (ed_eqS (ed_var rfl ((g2.trans g3).dx hw)) ed_str)) (fun hc4 H4 g4 => ?_) (fun hc4 H4 g4 => ?_)
  · have hv2 := (((g1.trans g2).trans g3).trans g4).dx hv
    cases hn with
    | letE x k v b => exact rd_ret (ed_tup (eda_cons (ed_tup (eda_cons (ed_x rfl hv2 rfl) (eda_cons ed_int eda_nil))) (eda_cons (ed_tup (eda_cons (ed_x rfl hv2 rfl) (eda_cons ed_int eda_nil))) (eda_cons (ed_tup (eda_cons (ed_x rfl hv2 rfl) (eda_cons ed_int eda_nil))) eda_nil))))
    | one _ x h1 h2 h3 h4 => exact absurd (of_decide_eq_true hc4) h4
    | two _ x y h1 h2 h3 h4 => exact absurd (of_decide_eq_true hc4) h4
    | bind p x k b => cases p <;> cases hc4
    | app f a => cases hc4
  refine rd_when (et_test (ed_eqS (ed_var rfl (((g2.trans g3).trans g4).dx hw)) ed_str)) (fun hc5 H5 g5 => ?_) (fun hc5 H5 g5 => ?_)
  · exfalso
    cases hn with
    | one _ x h1 h2 h3 h4 h5 => exact absurd (of_decide_eq_true hc5) h5
    | two _ x y h1 h2 h3 h4 h5 => exact absurd (of_decide_eq_true hc5) h5
    | bind p x k b => cases p <;> cases hc5
    | app f a => cases hc5
    | letE x k v b => cases hc5
  · have hz : pairsD (.tuple (.str wd :: rest)) = [] := by
      cases hn with
      | one _ x => rfl
      | two _ x y h1 => exact if_neg h1
      | letE x k v b => cases hc4
      | bind p x k b => cases p <;> cases hc3
      | app f a => cases hc
    rw [hz]
    exact rd_ret (ed_tup eda_nil)
end
end K1
namespace K1
open PySem PySem.Spec PyProof.Rows L2
/-! ### nodes -/
def kidsT : Tm → Nat → List (Tm × Nat)
  | .var _, _ => []
  | .leaf _, _ => []
  | .bind _ _ k b, a => [(k, a), (b, a + 1)]
  | .app f x, a => [(f, a), (x, a)]
  | .letE _ k v b, a => [(k, a), (v, a), (b, a + 1)]
def nd : Tm → Nat → List (Tm × Nat)
  | .var n, a => [(.var n, a)]
  | .leaf l, a => [(.leaf l, a)]
  | .bind p x k b, a => (.bind p x k b, a) :: (nd k a ++ nd b (a + 1))
  | .app f x, a => (.app f x, a) :: (nd f a ++ nd x a)
  | .letE y k v b, a => (.letE y k v b, a) :: (nd k a ++ (nd v a ++ nd b (a + 1)))
theorem nd_kids (t : Tm) (a : Nat) : nd t a = (t, a) :: (kidsT t a).flatMap fun p => nd p.1 p.2 := by
  cases t <;> simp [nd, kidsT, List.flatMap_cons]
theorem nd_len (t : Tm) : ∀ a, (nd t a).length = cnt t := by
  induction t with
  | var n => intro a; rfl
  | leaf l => intro a; rfl
  | bind p x k b i1 i2 => intro a; simp only [nd, cnt, List.length_cons, List.length_append, i1, i2]; omega
  | app f x i1 i2 => intro a; simp only [nd, cnt, List.length_cons, List.length_append, i1, i2]; omega
  | letE y k v b i1 i2 i3 => intro a; simp only [nd, cnt, List.length_cons, List.length_append, i1, i2, i3]; omega
def encP (p : Tm × Nat) : PyData := .tuple [enc p.1, .int p.2]
theorem nl_encP (p : Tm × Nat) : nl (encP p) = true := by show (nl (enc p.1) && (true && true)) = true; rw [nl_enc]; rfl
theorem nlA_encP (l : List (Tm × Nat)) : nlA (l.map encP) = true := nlA_all fun x h => by
  obtain ⟨p, _, rfl⟩ := List.mem_map.mp h
  exact nl_encP p
theorem node_leaf (l : Lf) : NodeD (encL l) := by
  cases l with
  | sort l => exact .one _ _ (by decide) (by decide) (by decide) (by decide) (by decide)
  | cst l => exact .one _ _ (by decide) (by decide) (by decide) (by decide) (by decide)
  | rcr c l => exact .two _ _ _ (by decide) (by decide) (by decide) (by decide) (by decide)
theorem node_enc (t : Tm) : NodeD (enc t) := by
  cases t with
  | var n => exact .one _ _ (by decide) (by decide) (by decide) (by decide) (by decide)
  | leaf l => exact node_leaf l
  | bind p x k b => exact .bind p _ _ _
  | app f a => exact .app _ _
  | letE x k v b => exact .letE _ _ _ _
theorem pairs_enc (t : Tm) : pairsD (enc t) = (kidsT t 0).map encP := by
  cases t with
  | var n => rfl
  | leaf l => cases l <;> rfl
  | bind p x k b => rfl
  | app f a => rfl
  | letE x k v b => rfl
theorem kids_shift (t : Tm) (a : Nat) : kidsT t a = (kidsT t 0).map fun p => (p.1, a + p.2) := by
  cases t <;> simp [kidsT]
abbrev sNodes : Stmt := topS 13
theorem scNodes : FnScope ["term", "found", "waiting", "one", "around", "part", "under"] ["term"] (defScope sNodes) := ⟨rfl, rfl, rfl, by decide +kernel, rfl, by decide +kernel, by decide +kernel⟩
def rNodes : List PyData → PyData → Prop := fun ds r => ∃ t, ds = [enc t] ∧ cnt t ≤ 50000 ∧ r = .list ((nd t 0).map encP)
def wsum (S : List (Tm × Nat)) : Nat := (S.map fun p => cnt p.1).sum
theorem wsum_cons (p : Tm × Nat) (S : List (Tm × Nat)) : wsum (p :: S) = cnt p.1 + wsum S := by simp [wsum]
theorem wsum_kids (t : Tm) (a : Nat) (S : List (Tm × Nat)) : wsum (kidsT t a ++ S) + 1 = cnt t + wsum S := by
  cases t <;> simp [kidsT, wsum, cnt] <;> omega
/-- the loop's word: what is found, what waits (the next one first) -/
structure NdH (T : Tbl) (H0 : Hp) (lf lw : Addr) (F S : List (Tm × Nat)) (H : Hp) : Prop where
  gr : Gr T H0 H
  nf : H0 lf = none
  nw : H0 lw = none
  ne : lf ≠ lw
  fnd : ∃ fs, H lf = some (.lst fs) ∧ DxA H fs (F.map encP)
  wt : ∃ ws, H lw = some (.lst ws) ∧ DxA H ws (S.reverse.map encP)
structure NdW (T : Tbl) (t : Tm) (H0 : Hp) (v0 : V) (lf lw : Addr) (F S : List (Tm × Nat)) (σ : L2.St) (H : Hp) : Prop where
  st : ∃ a b c d, σ = [some v0, some (.ref lf), some (.ref lw), a, b, c, d]
  hp : NdH T H0 lf lw F S H
  all : F ++ S.flatMap (fun p => nd p.1 p.2) = nd t 0
section
variable {P : Program} {w : World} {K : PySem.W.Frag} {mg : Str → Option Value} {base : Heap} {T : Tbl} {f fp : Addr} {fd fpd : FuncData}
theorem nd_pos (t : Tm) (a : Nat) : 0 < (nd t a).length := by rw [nd_len]; exact cnt_pos t
theorem S_len {S : List (Tm × Nat)} : S.length ≤ (S.flatMap fun p => nd p.1 p.2).length := by
  induction S with
  | nil => exact Nat.le_refl _
  | cons p S ih => rw [List.flatMap_cons, List.length_append, List.length_cons]; have := nd_pos p.1 p.2; omega
theorem ok_nodes (F : Fun K "nodes" "nodes" sNodes f fd) (GP : FnOk P w K mg base CX0 1 fp fpd ["term"] (spF T rParts)) (CP : Cal K mg "parts" fp fpd ["term"]) (mr : mg "reversed" = none) :
    FnOk P w K mg base CX0 2 f fd ["term"] (spF T rNodes) := by
  refine mkF F scNodes (fun ds r ⟨d, e, _⟩ => by rw [e]; rfl) (fun cdv A outer s H vs E ds r hr hR hd hT => ?_)
  obtain ⟨t, rfl, hc, rfl⟩ := hR
  obtain ⟨v0, rfl, hv⟩ := dxA1 hd
  refine ⟨_, pss_cons (ps_set (i := 1) scNodes.nd rfl (.inl rfl) (pe_lst pa_nil))
    (pss_cons (ps_set (i := 2) scNodes.nd rfl (.inl rfl) (pe_lst (pa_cons (pe_tup (pa_cons (pv 0) (pa_cons pe_int pa_nil))) pa_nil)))
    (pss_cons (ps_while PassesOwn.never (pt_truth (pv 2) (by intro _; rfl))
      (pss_cons (ps_asg (pe_bm0 PySem.F.plainAttrs_list PySem.F.slot_list_pop PySem.F.type_list_pop mt_pop (pv 2)) (pg_tup (by rfl) (pgs_cons (pg_name (i := 3) scNodes.nd rfl (.inl rfl)) (pgs_cons (pg_name (i := 4) scNodes.nd rfl (.inl rfl)) pgs_nil))))
      (pss_cons (ps_expr (pe_bm PySem.F.plainAttrs_list PySem.F.slot_list_append PySem.F.type_list_append mt_append (pv 1) (pa_cons (pe_tup (pa_cons (pv 3) (pa_cons (pv 4) pa_nil))) pa_nil)))
      (pss_one (ps_for PassesOwn.never rfl (RT.pi_revA rfl mr (pe_call GP hr rfl CP.m CP.kp CP.b .nil pass0 (pa_cons (pv 3) pa_nil))) (pg_tup (by rfl) (pgs_cons (pg_name (i := 5) scNodes.nd rfl (.inl rfl)) (pgs_cons (pg_name (i := 6) scNodes.nd rfl (.inl rfl)) pgs_nil)))
        (pss_one (ps_expr (pe_bm PySem.F.plainAttrs_list PySem.F.slot_list_append PySem.F.type_list_append mt_append (pv 2) (pa_cons (pe_tup (pa_cons (pv 5) (pa_cons (pe_op op_add (pv 4) (pv 6)) pa_nil))) pa_nil)))))))))
    (pss_one (ps_ret (pv 1))))), ?_⟩
  intro D q
  -- found = []
  refine ⟨szl (by decide), fun lf hlf => ?_⟩
  -- waiting = [(term, 0)]
  refine ⟨v0, rfl, szl (Nat.le_of_ble_eq_true rfl), fun p0 hp0 => ?_⟩
  refine ⟨szl (Nat.le_of_ble_eq_true rfl), fun lw hlw => ?_⟩
  have g1 : Gr T H (upd H lf (.lst [])) := Gr.new hlf
  have g2 := Gr.new (T := T) (o := .tup [v0, .int 0]) hp0
  have g3 := Gr.new (T := T) (o := .lst [.ref p0]) hlw
  have hlw1 : (upd H lf (.lst [])) lw = none := by
    by_cases e : lw = p0
    · rw [e, upd_same] at hlw; cases hlw
    · rw [upd_ne e] at hlw; exact hlw
  have nlw : lf ≠ lw := fun e => by rw [← e, upd_same] at hlw1; cases hlw1
  have W0 : NdW T t H v0 lf lw [] [(t, 0)] [some v0, some (.ref lf), some (.ref lw), none, none, none, none] (upd (upd (upd H lf (.lst [])) p0 (.tup [v0, .int 0])) lw (.lst [.ref p0])) := by
    refine ⟨⟨_, _, _, _, rfl⟩, ⟨(g1.trans g2).trans g3, hlf, by rw [upd_ne (Ne.symm nlw)] at hlw1; exact hlw1, nlw, ⟨[], ?_, .nil⟩, ⟨_, upd_same, .cons (.tup (xs := [v0, .int 0]) ?_ (.cons (((g1.trans g2).trans g3).dx hv) (.cons (.int 0) .nil))) .nil⟩⟩, by simp⟩
    · rw [upd_ne nlw, upd_ne (fun e => by rw [← e, upd_same] at hp0; cases hp0), upd_same]
    · rw [upd_ne (fun e => by rw [← e, upd_same] at hlw; cases hlw), upd_same]
  refine ⟨fun m σ H1 => ∃ F S, m = wsum S ∧ NdW T t H v0 lf lw F S σ H1, ⟨_, [], _, rfl, W0⟩, ?_⟩
  rintro m σ H1 ⟨F, S, rfl, I⟩
  obtain ⟨⟨a, b, c, d, rfl⟩, ⟨gr, nf, nw, ne, ⟨fs, hf, hfs⟩, ⟨ws, hw, hws⟩⟩, all⟩ := I
  have hlen : F.length + (S.flatMap fun p => nd p.1 p.2).length = cnt t := by rw [← List.length_append, all, nd_len]
  have hSl := S_len (S := S)
  refine t_list (K := K) (xs := ws) rfl hw ?_
  cases S with
  | nil =>
    have e0 : ws = [] := by cases hws; rfl
    subst e0
    rw [List.flatMap_nil, List.append_nil] at all
    refine iteF ?_
    exact ⟨_, rfl, q _ _ gr (.lst hf (by rw [← all]; exact hfs))⟩
  | cons p S =>
    obtain ⟨t1, a1⟩ := p
    rw [List.reverse_cons, List.map_append] at hws
    obtain ⟨ws', v1, rfl, hws', hv1⟩ := dxA_snoc hws
    have hb : (!(ws' ++ [v1]).isEmpty) = true := by cases ws' <;> rfl
    rw [hb]
    refine iteT ?_
    -- one, around = waiting.pop()
    cases hv1 with
    | @tup pa xs _ hpa hxs =>
    obtain ⟨u1, u2, rfl, hu1, hu2⟩ := dxA2 hxs
    cases hu2
    refine ⟨fun σ' H' => ∃ F S', wsum S' < wsum ((t1, a1) :: S) ∧ NdW T t H v0 lf lw F S' σ' H', fun σ' H' ⟨F, S', h1, h2⟩ => ⟨_, h1, F, S', rfl, h2⟩, ?_⟩
    have hst := stt_mut (o := .lst ws') hw
    refine ⟨_, rfl, .inl ⟨rfl, _, SqL.of hw⟩, lw, _, .ref pa, rfl, rfl, hw, by simp, ?_⟩
    rw [List.dropLast_concat]
    refine ⟨pa, _, rfl, SqT.of (hst _ _ hpa), rfl, _, _, rfl, _, _, rfl, rfl, ?_⟩
    have gr2 := gr.mut (o := .lst ws') nw hw
    have hf2 : (upd H1 lw (.lst ws')) lf = some (.lst fs) := by rw [upd_ne ne]; exact hf
    have hu1b := Dx.stt hst _ _ (nl_enc t1) hu1
    have hlf' : fs.length = F.length := by rw [hfs.length, List.length_map]
    -- found.append((one, around))
    refine s_app (T := T) (d := encP (t1, a1)) rfl hf2 (ed_tup (eda_cons (ed_var rfl hu1b) (eda_cons (ed_var rfl (.int _)) eda_nil))) (by omega) fun v3 H3 g3 hv3 => ?_
    have gr3 := (gr2.trans g3).mut (o := .lst (fs ++ [v3])) nf (g3.lsts hf2)
    have st3 := stt_mut (o := .lst (fs ++ [v3])) (g3.lsts hf2)
    have hu1c := Dx.stt st3 _ _ (nl_enc t1) (g3.dx hu1b)
    have hw2 : (upd H1 lw (.lst ws')) lw = some (.lst ws') := upd_same
    have hw3 : (upd H3 lf (.lst (fs ++ [v3]))) lw = some (.lst ws') := by rw [upd_ne (Ne.symm ne)]; exact g3.lsts hw2
    have hws3 : DxA (upd H3 lf (.lst (fs ++ [v3]))) ws' (S.reverse.map encP) := DxA.stt st3 _ _ (nlA_encP _) (g3.dxA (DxA.stt hst _ _ (nlA_encP _) hws'))
    have hfs3 : DxA (upd H3 lf (.lst (fs ++ [v3]))) (fs ++ [v3]) ((F ++ [(t1, a1)]).map encP) := by
      rw [List.map_append]
      exact DxA.stt st3 _ _ (by rw [← List.map_singleton, ← List.map_append]; exact nlA_encP _) ((g3.dxA (DxA.stt hst _ _ (nlA_encP _) hfs)).append (.cons hv3 .nil))
    -- for part, under in reversed(parts(one))
    refine ed_call (T := T) (dd := []) (ds := [enc t1]) (gr3.2 hT) (eda_cons (ed_var rfl hu1c) eda_nil) (fun _ => .nil) ⟨_, rfl, node_enc t1, rfl⟩ _ (Gr.refl _) _ fun v4 H4 g4 hv4 => ?_
    rw [pairs_enc] at hv4
    cases hv4 with
    | @tup pk ks _ hpk hks =>
    have hkl : ks.length = (kidsT t1 0).length := by rw [hks.length, List.length_map]
    have hks0 : (kidsT t1 a1).length = ks.length := by rw [kids_shift, List.length_map, hkl]
    refine ⟨pk, ks, rfl, .inr ⟨SqT.of hpk, RT.for_ItvT (K := K) (a := pk) (xs := ks) (fun i σ' H' => (∃ c d, σ' = [some v0, some (.ref lf), some (.ref lw), some u1, some (.int a1), c, d]) ∧
      NdH T H lf lw (F ++ [(t1, a1)]) ((kidsT t1 a1).drop (ks.length - i) ++ S) H' ∧ H' pk = some (.tup ks) ∧ DxA H' ks ((kidsT t1 0).map encP)) ⟨⟨_, _, rfl⟩, ⟨gr3.trans g4, nf, nw, ne, ⟨_, g4.lsts upd_same, g4.dxA hfs3⟩, ⟨_, g4.lsts hw3, ?_⟩⟩, hpk, hks⟩ (fun i σ' H' h => SqT.of h.2.2.1) ?_ ?_⟩⟩
    · rw [Nat.sub_zero, ← hks0, List.drop_length, List.nil_append]
      exact g4.dxA hws3
    · rintro i x σ' H' hi hx ⟨⟨c', d', rfl⟩, ⟨gr5, _, _, _, ⟨fs5, hf5, hfs5⟩, ⟨ws5, hw5, hws5⟩⟩, hpk5, hks5⟩
      obtain ⟨kd, hkd⟩ : ∃ kd, (kidsT t1 0)[ks.length - 1 - i]? = some kd := ⟨_, List.getElem?_eq_getElem (by omega)⟩
      obtain ⟨x', hx', hdx⟩ := hks5.get (i := ks.length - 1 - i) (d := encP kd) (by rw [List.getElem?_map, hkd]; rfl)
      rw [hx] at hx'
      cases hx'
      cases hdx with
      | @tup px xs5 _ hpx hxs5 =>
      obtain ⟨y1, y2, rfl, hy1, hy2⟩ := dxA2 hxs5
      cases hy2
      refine ⟨px, _, rfl, SqT.of hpx, rfl, _, _, rfl, _, _, rfl, rfl, ?_⟩
      have hn5 : ws5.length < 100000 := by
        rw [hws5.length, List.length_map, List.length_reverse, List.length_append, List.length_drop, hks0]
        have hk3 : (kidsT t1 0).length ≤ 3 := by cases t1 <;> simp [kidsT]
        have := hSl
        rw [List.length_cons] at this
        omega
      refine s_app (T := T) (d := encP (kd.1, a1 + kd.2)) rfl hw5 (ed_is (ed_tup (eda_cons (ed_var rfl hy1) (eda_cons (ed_add (ed_var rfl (.int _)) (ed_var rfl (.int _))) eda_nil))) (by unfold encP; rw [Int.natCast_add])) hn5 fun v6 H6 g6 hv6 => ?_
      have st6 := stt_mut (o := .lst (ws5 ++ [v6])) (g6.lsts hw5)
      refine ⟨⟨_, _, rfl⟩, ⟨(gr5.trans g6).mut nw (g6.lsts hw5), nf, nw, ne, ⟨fs5, by rw [upd_ne ne]; exact g6.lsts hf5, DxA.stt st6 _ _ (nlA_encP _) (g6.dxA hfs5)⟩, ⟨_, upd_same, ?_⟩⟩, st6 _ _ (g6.tups hpk5), DxA.stt st6 _ _ (nlA_encP _) (g6.dxA hks5)⟩
      have e7 : (kidsT t1 a1).drop (ks.length - (i + 1)) = (kd.1, a1 + kd.2) :: (kidsT t1 a1).drop (ks.length - i) := by
        have hi2 : ks.length - 1 - i < (kidsT t1 a1).length := by omega
        rw [show ks.length - (i + 1) = ks.length - 1 - i by omega, List.drop_eq_getElem_cons hi2, show ks.length - 1 - i + 1 = ks.length - i by omega]
        congr 1
        have e8 : (kidsT t1 a1)[ks.length - 1 - i]? = some (kd.1, a1 + kd.2) := by rw [kids_shift, List.getElem?_map, hkd]; rfl
        exact Option.some.inj ((List.getElem?_eq_getElem hi2).symm.trans e8)
      rw [e7, List.cons_append, List.reverse_cons, List.map_append]
      exact DxA.stt st6 _ _ (by rw [← List.map_append]; exact nlA_encP _) ((g6.dxA hws5).append (.cons hv6 .nil))
    · rintro σ' H' ⟨⟨c', d', rfl⟩, hN, _, _⟩
      rw [Nat.sub_self, List.drop_zero] at hN
      refine ⟨_, _, ?_, ⟨_, _, _, _, rfl⟩, hN, ?_⟩
      · have := wsum_kids t1 a1 S
        rw [wsum_cons]
        show _ < cnt t1 + wsum S
        omega
      · rw [List.append_assoc, List.flatMap_append, ← all, List.flatMap_cons, nd_kids t1 a1]
        rfl
end
end K1
namespace K1
open PySem PySem.Spec PyProof.Rows L2
section
variable {T : Tbl} {K : PySem.W.Frag} {σ : L2.St} {H H' : Hp} {ta tb te : TE} {d e r : PyData}
theorem ed_lenL {ds : List PyData} (h : ED T te σ H (.list ds)) : ED T (tCB (fun xs H Q => ∃ p ys, xs = [.ref p] ∧ (SqL K H p ys ∨ SqT K H p ys) ∧ Q (.int ys.length) H) (tCons te tNil)) σ H (.int ds.length) := fun H1 g Q q =>
  h H1 g _ fun v H2 g2 hv => by
    cases hv with
    | lst h1 h2 => exact ⟨_, _, rfl, .inl (SqL.of h1), q _ H2 g2 (by rw [h2.length]; exact .int _)⟩
theorem ed_lenT {ds : List PyData} (h : ED T te σ H (.tuple ds)) : ED T (tCB (fun xs H Q => ∃ p ys, xs = [.ref p] ∧ (SqL K H p ys ∨ SqT K H p ys) ∧ Q (.int ys.length) H) (tCons te tNil)) σ H (.int ds.length) := fun H1 g Q q =>
  h H1 g _ fun v H2 g2 hv => by
    cases hv with
    | tup h1 h2 => exact ⟨_, _, rfl, .inr (SqT.of h1), q _ H2 g2 (by rw [h2.length]; exact .int _)⟩
theorem ed_max2 {i j : Int} (h : ED T ta σ H (.int i)) (hb : ED T tb σ H (.int j)) : ED T (tCB (fun xs H Q => ∃ i j, xs = [.int i, .int j] ∧ Q (.int (if j > i then j else i)) H) (tCons ta (tCons tb tNil))) σ H (.int (if j > i then j else i)) := fun H1 g Q q =>
  h H1 g _ fun v H2 g2 hv => hb H2 (g.trans g2) _ fun w H3 g3 hw => by
    cases hv; cases hw
    exact ⟨i, j, rfl, q _ H3 (g2.trans g3) (.int _)⟩
end
/-! ### with_parts -/
abbrev sWith : Stmt := topS 8
theorem scWith : FnScope ["term", "fresh", "word"] ["term", "fresh"] (defScope sWith) := ⟨rfl, rfl, rfl, by decide +kernel, rfl, by decide +kernel, by decide +kernel⟩
inductive WK : Tm → List Tm → Tm → Prop
  | var (n : Nat) : WK (.var n) [] (.var n)
  | leaf (l : Lf) : WK (.leaf l) [] (.leaf l)
  | bind (p : Bool) (x : Str) (k b k' b' : Tm) : WK (.bind p x k b) [k', b'] (.bind p x k' b')
  | app (f a f' a' : Tm) : WK (.app f a) [f', a'] (.app f' a')
  | letE (x : Str) (k v b k' v' b' : Tm) : WK (.letE x k v b) [k', v', b'] (.letE x k' v' b')
def rWith : List PyData → PyData → Prop := fun ds r => ∃ t ts u, ds = [enc t, .list (ts.map enc)] ∧ WK t ts u ∧ r = enc u
def wd : Tm → Str
  | .var _ => "var"
  | .leaf (.sort _) => "sort"
  | .leaf (.cst _) => "const"
  | .leaf (.rcr _ _) => "rec"
  | .bind p _ _ _ => bw p
  | .app _ _ => "app"
  | .letE _ _ _ _ => "let"
theorem enc_hd (t : Tm) : ∃ rest, enc t = .tuple (.str (wd t) :: rest) := by
  cases t with
  | leaf l => cases l <;> exact ⟨_, rfl⟩
  | _ => exact ⟨_, rfl⟩
theorem wd_app {t : Tm} (h : wd t = "app") : ∃ f a, t = .app f a := by
  cases t with
  | app f a => exact ⟨f, a, rfl⟩
  | leaf l => cases l <;> exact absurd h (of_decide_eq_false rfl)
  | bind p x k b => cases p <;> exact absurd h (of_decide_eq_false rfl)
  | var n => exact absurd h (of_decide_eq_false rfl)
  | letE x k v b => exact absurd h (of_decide_eq_false rfl)
theorem wd_bind {t : Tm} (h : wd t ∈ (["pi", "lam"] : List Str)) : ∃ p x k b, t = .bind p x k b := by
  cases t with
  | bind p x k b => exact ⟨p, x, k, b, rfl⟩
  | leaf l => cases l <;> exact absurd h (of_decide_eq_false rfl)
  | app f a => exact absurd h (of_decide_eq_false rfl)
  | var n => exact absurd h (of_decide_eq_false rfl)
  | letE x k v b => exact absurd h (of_decide_eq_false rfl)
theorem wd_let {t : Tm} (h : wd t = "let") : ∃ x k v b, t = .letE x k v b := by
  cases t with
  | letE x k v b => exact ⟨x, k, v, b, rfl⟩
  | leaf l => cases l <;> exact absurd h (of_decide_eq_false rfl)
  | app f a => exact absurd h (of_decide_eq_false rfl)
  | var n => exact absurd h (of_decide_eq_false rfl)
  | bind p x k b => cases p <;> exact absurd h (of_decide_eq_false rfl)
theorem wd_var {t : Tm} (h : wd t = "var") : ∃ n, t = .var n := by
  cases t with
  | var n => exact ⟨n, rfl⟩
  | leaf l => cases l <;> exact absurd h (of_decide_eq_false rfl)
  | app f a => exact absurd h (of_decide_eq_false rfl)
  | letE x k v b => exact absurd h (of_decide_eq_false rfl)
  | bind p x k b => cases p <;> exact absurd h (of_decide_eq_false rfl)
section
variable {X : Cx}
theorem pxl (i : Nat) {x : Str} {c : Int} {j : Nat} {pos p2 p3 : Pos} (hN : X.N[i]? = some x := by rfl) (hv : Vis X.env.scope x := by first | exact Or.inl rfl | exact Or.inr (Or.inl rfl) | exact Or.inr (Or.inr rfl)) (hd : (x == ("__debug__" : Str)) = false := by decide)
    (hcd : (x == ("__classdict__" : Str)) = false := by decide) : PE X (.Subscript (.Name x pos) (.Constant (.int c) j p2) p3) (tOp (rIxL X.K) (tVar i) (tC (.int c))) := pe_ix ix_list (pv i hN hv hd hcd) pe_int (fun _ _ => rfl)
end
section
variable {T : Tbl} {K : PySem.W.Frag} {σ : L2.St} {H H' : Hp} {d : PyData}
theorem ed_xl {i : Nat} {v : V} {c : Int} {ds : List PyData} (h : σ[i]? = some (some v)) (hd : Dx H v (.list ds)) (hi : atI ds c = some d) : ED T (tOp (rIxL K) (tVar i) (tC (.int c))) σ H d := ed_ixL (ed_var h hd) ed_int hi
end
section
variable {P : Program} {w : World} {K : PySem.W.Frag} {mg : Str → Option Value} {base : Heap} {T : Tbl} {f fn fl : Addr} {fd fnd fld : FuncData}
theorem ok_with (F : Fun K "with_parts" "with_parts" sWith f fd) : FnOk P w K mg base CX0 1 f fd ["term", "fresh"] (spF T rWith) := by
  refine mkF F scWith (fun ds r ⟨t, ts, u, e, _⟩ => by rw [e]; rfl) (fun cdv A outer s H vs E ds r hr hR hd hT => ?_)
  obtain ⟨t, ts, u, rfl, hk, rfl⟩ := hR
  obtain ⟨v, fr, rfl, hv, hf⟩ := dxA2 hd
  refine ⟨_, pss_cons (ps_set (i := 2) scWith.nd rfl (.inl rfl) (pxt 0))
    (pss_cons (ps_if (pt_cmpR op_eq (pv 2) pe_str (nomark _)) (pss_one (ps_ret (pe_tup (pa_cons (pv 2) (pa_cons (pxl 1) (pa_cons (pxl 1) pa_nil)))))) pss_nil)
    (pss_cons (ps_if (pt_cmpR op_in_seq (pv 2) (pe_tup (pa_cons pe_str (pa_cons pe_str pa_nil))) (by rfl)) (pss_one (ps_ret (pe_tup (pa_cons (pv 2) (pa_cons (pxt 0) (pa_cons (pxl 1) (pa_cons (pxl 1) pa_nil))))))) pss_nil)
    (pss_cons (ps_if (pt_cmpR op_eq (pv 2) pe_str (nomark _)) (pss_one (ps_ret (pe_tup (pa_cons (pv 2) (pa_cons (pxt 0) (pa_cons (pxl 1) (pa_cons (pxl 1) (pa_cons (pxl 1) pa_nil)))))))) pss_nil)
    (pss_cons (ps_if (pt_cmpR op_eq (pv 2) pe_str (nomark _)) pss_never pss_nil)
    (pss_one (ps_ret (pv 0))))))), ?_⟩
  obtain ⟨rest, hrest⟩ := enc_hd t
  have hv' := hv
  rw [hrest] at hv'
  refine rd_asg (ed_x rfl hv' (atI_nat (j := 0) rfl)) fun v1 H1 g1 hw => ?_
  refine rd_when (et_test (ed_eqS (ed_var rfl hw) ed_str)) (fun hc H2 g2 => ?_) (fun hc H2 g2 => ?_)
  · obtain ⟨f, a, rfl⟩ := wd_app (of_decide_eq_true hc)
    have hf2 := (g1.trans g2).dx hf
    cases hk
    exact rd_ret (ed_tup (eda_cons (ed_var rfl (g2.dx hw)) (eda_cons (ed_xl rfl hf2 rfl) (eda_cons (ed_xl rfl hf2 rfl) eda_nil))))
  refine rd_when (et_test (ed_inT ["pi", "lam"] (ed_var rfl (g2.dx hw)) (ed_tup (eda_cons ed_str (eda_cons ed_str eda_nil))))) (fun hc3 H3 g3 => ?_) (fun hc3 H3 g3 => ?_)
  · obtain ⟨p, x, k, b, rfl⟩ := wd_bind (of_decide_eq_true hc3)
    have hf2 := ((g1.trans g2).trans g3).dx hf
    have hv2 := ((g1.trans g2).trans g3).dx hv
    cases hk
    exact rd_ret (ed_tup (eda_cons (ed_var rfl ((g2.trans g3).dx hw)) (eda_cons (ed_x rfl hv2 rfl) (eda_cons (ed_xl rfl hf2 rfl) (eda_cons (ed_xl rfl hf2 rfl) eda_nil)))))
  refine rd_when (et_test (ed_eqS (ed_var rfl ((g2.trans g3).dx hw)) ed_str)) (fun hc4 H4 g4 => ?_) (fun hc4 H4 g4 => ?_)
  · obtain ⟨x, k, v, b, rfl⟩ := wd_let (of_decide_eq_true hc4)
    have hf2 := (((g1.trans g2).trans g3).trans g4).dx hf
    have hv2 := (((g1.trans g2).trans g3).trans g4).dx hv
    cases hk
    exact rd_ret (ed_tup (eda_cons (ed_var rfl (((g2.trans g3).trans g4).dx hw)) (eda_cons (ed_x rfl hv2 rfl) (eda_cons (ed_xl rfl hf2 rfl) (eda_cons (ed_xl rfl hf2 rfl) (eda_cons (ed_xl rfl hf2 rfl) eda_nil))))))
  refine rd_when (et_test (ed_eqS (ed_var rfl (((g2.trans g3).trans g4).dx hw)) ed_str)) (fun hc5 H5 g5 => ?_) (fun hc5 H5 g5 => ?_)
  · exfalso
    have hm : wd t = "meta" := of_decide_eq_true hc5
    cases t with
    | leaf l => cases l <;> exact absurd hm (of_decide_eq_false rfl)
    | app f a => exact absurd hm (of_decide_eq_false rfl)
    | var n => exact absurd hm (of_decide_eq_false rfl)
    | bind p x k b => cases p <;> exact absurd hm (of_decide_eq_false rfl)
    | letE x k v b => exact absurd hm (of_decide_eq_false rfl)
  · have hz : u = t := by
      cases hk with
      | var n => rfl
      | leaf l => rfl
      | app f a => cases hc
      | letE x k v b => cases hc4
      | bind p x k b => cases p <;> cases hc3
    rw [hz]
    exact rd_ret (ed_var rfl (((((g1.trans g2).trans g3).trans g4).trans g5).dx hv))
/-! ### size, pi_level -/
abbrev sSize : Stmt := topS 25
theorem scSize : FnScope ["term"] ["term"] (defScope sSize) := ⟨rfl, rfl, rfl, by decide +kernel, rfl, by decide +kernel, by decide +kernel⟩
def rSize : List PyData → PyData → Prop := fun ds r => ∃ t, ds = [enc t] ∧ cnt t ≤ 50000 ∧ r = .int (cnt t)
theorem ok_size (F : Fun K "size" "size" sSize f fd) (GN : FnOk P w K mg base CX0 2 fn fnd ["term"] (spF T rNodes)) (CN : Cal K mg "nodes" fn fnd ["term"]) (ml : mg "len" = none) : FnOk P w K mg base CX0 3 f fd ["term"] (spF T rSize) := by
  refine mkF F scSize (fun ds r ⟨t, e, _⟩ => by rw [e]; rfl) (fun cdv A outer s H vs E ds r hr hR hd hT => ?_)
  obtain ⟨t, rfl, hc, rfl⟩ := hR
  obtain ⟨v, rfl, hv⟩ := dxA1 hd
  refine ⟨_, pss_one (ps_ret (pe_callB call_len_seq rfl ml PySem.boot_len (pa_cons (pe_call GN hr rfl CN.m CN.kp CN.b .nil pass0 (pa_cons (pv 0) pa_nil)) pa_nil))), ?_⟩
  refine rd_ret (ed_is (ed_lenL (ed_call (dd := []) hT (eda_cons (ed_var rfl hv) eda_nil) (fun _ => .nil) ⟨t, rfl, hc, rfl⟩)) ?_)
  rw [List.length_map, nd_len]
abbrev sPl : Stmt := topS 31
theorem scPl : FnScope ["one", "other"] ["one", "other"] (defScope sPl) := ⟨rfl, rfl, rfl, by decide +kernel, rfl, by decide +kernel, by decide +kernel⟩
def rPl : List PyData → PyData → Prop := fun ds r => ∃ a b : Int, ds = [.int a, .int b] ∧ r = .int (if b = 0 then 0 else if b > a then b else a)
theorem ok_pl (F : Fun K "pi_level" "pi_level" sPl f fd) (mm : mg "max" = none) : FnOk P w K mg base CX0 1 f fd ["one", "other"] (spF T rPl) := by
  refine mkF F scPl (fun ds r ⟨a, b, e, _⟩ => by rw [e]; rfl) (fun cdv A outer s H vs E ds r hr hR hd hT => ?_)
  obtain ⟨a, b, rfl, rfl⟩ := hR
  obtain ⟨v, v', rfl, hv, hv'⟩ := dxA2 hd
  refine ⟨_, pss_one (ps_ret (pe_ifExp (pt_cmpR op_eq (pv 1) pe_int (nomark _)) pe_int (pe_callB (call_max2 rfl) rfl mm PyProof.Rows.boot_max (pa_cons (pv 0) (pa_cons (pv 1) pa_nil))))), ?_⟩
  refine rd_ret (ed_if (et_test (ed_eqI (ed_var rfl hv') ed_int)) (fun hc => ?_) (fun hc => ?_))
  · rw [if_pos (of_decide_eq_true hc)]; exact ed_int
  · rw [if_neg (of_decide_eq_false hc)]; exact ed_max2 (ed_var rfl hv) (ed_var rfl hv')
/-! ### apply, binders: a loop over a list -/
abbrev sApply : Stmt := topS 26
theorem scApply : FnScope ["function", "arguments", "argument"] ["function", "arguments"] (defScope sApply) := ⟨rfl, rfl, rfl, by decide +kernel, rfl, by decide +kernel, by decide +kernel⟩
def rApply : List PyData → PyData → Prop := fun ds r => ∃ (h : Tm) (as : List Tm), ds = [enc h, .list (as.map enc)] ∧ r = enc (as.foldl Tm.app h)
theorem ok_apply (F : Fun K "apply" "apply" sApply f fd) : FnOk P w K mg base CX0 1 f fd ["function", "arguments"] (spF T rApply) := by
  refine mkF F scApply (fun ds r ⟨a, b, e, _⟩ => by rw [e]; rfl) (fun cdv A outer s H vs E ds r hr hR hd hT => ?_)
  obtain ⟨h, as, rfl, rfl⟩ := hR
  obtain ⟨v, v', rfl, hv, hv'⟩ := dxA2 hd
  refine ⟨_, pss_cons (ps_for PassesOwn.never rfl (pi_list (pv 1)) (pg_name (i := 2) scApply.nd rfl (.inl rfl)) (pss_one (ps_set (i := 0) scApply.nd rfl (.inl rfl) (pe_tup (pa_cons pe_str (pa_cons (pv 0) (pa_cons (pv 2) pa_nil)))))))
    (pss_one (ps_ret (pv 0))), ?_⟩
  intro D q
  cases hv' with
  | @lst a xs _ ha hxs =>
  have hl : xs.length = as.length := by rw [hxs.length, List.length_map]
  refine ⟨_, rfl, a, rfl, ⟨xs, SqL.of ha⟩, for_list (K := K) (xs := xs) (fun i σ H' => Gr T H H' ∧ ∃ u c, σ = [some u, some (.ref a), c] ∧ Dx H' u (enc ((as.take i).foldl Tm.app h))) ⟨Gr.refl H, v, none, rfl, hv⟩ (fun i σ H' _ hp => SqL.of (hp.1.lsts ha)) ?_ ?_⟩
  · rintro i x σ H' hx ⟨g, u, c, rfl, hu⟩
    have hi := (List.getElem?_eq_some_iff.mp hx).1
    obtain ⟨t, ht⟩ : ∃ t, as[i]? = some t := ⟨_, List.getElem?_eq_getElem (by omega)⟩
    obtain ⟨x', hx', hdx⟩ := (g.dxA hxs).get (i := i) (d := enc t) (by rw [List.getElem?_map, ht]; rfl)
    rw [hx] at hx'
    cases hx'
    have ed : ED T (tTup (tCons (tC (.str "app")) (tCons (tVar 0) (tCons (tVar 2) tNil)))) [some u, some (.ref a), some x] H' (enc ((as.take (i + 1)).foldl Tm.app h)) := by
      have e : (as.take (i + 1)).foldl Tm.app h = .app ((as.take i).foldl Tm.app h) t := by
        rw [List.take_succ, ht, List.foldl_append]
        rfl
      rw [e]
      exact ed_tup (eda_cons ed_str (eda_cons (ed_var rfl hu) (eda_cons (ed_var rfl hdx) eda_nil)))
    show tAsg _ (gName 0) _ [some u, some (.ref a), some x] _
    exact s_set ed fun w H2 g2 hw => ⟨g.trans g2, w, _, rfl, hw⟩
  · rintro σ H' ⟨g, u, c, rfl, hu⟩
    rw [hl, List.take_length] at hu
    exact ⟨_, rfl, q _ _ g hu⟩
abbrev sBind : Stmt := topS 28
theorem scBind : FnScope ["word", "rows", "body", "name", "kind"] ["word", "rows", "body"] (defScope sBind) := ⟨rfl, rfl, rfl, by decide +kernel, rfl, by decide +kernel, by decide +kernel⟩
def encR (p : Str × Tm) : PyData := .tuple [.str p.1, enc p.2]
def mkB (p : Bool) (rows : List (Str × Tm)) (b : Tm) : Tm := rows.foldr (fun r b => .bind p r.1 r.2 b) b
def rBind : List PyData → PyData → Prop := fun ds r => ∃ (p : Bool) (rows : List (Str × Tm)) (b : Tm), ds = [.str (bw p), .list (rows.map encR), enc b] ∧ r = enc (mkB p rows b)
theorem ok_bind (F : Fun K "binders" "binders" sBind f fd) (mr : mg "reversed" = none) : FnOk P w K mg base CX0 1 f fd ["word", "rows", "body"] (spF T rBind) := by
  refine mkF F scBind (fun ds r ⟨a, b, c, e, _⟩ => by rw [e]; rfl) (fun cdv A outer s H vs E ds r hr hR hd hT => ?_)
  obtain ⟨p, rows, b, rfl, rfl⟩ := hR
  obtain ⟨v, v', v2, rfl, hv, hv', hv2⟩ := dxA3 hd
  cases hv
  refine ⟨_, pss_cons (ps_for PassesOwn.never rfl (RT.pi_revA rfl mr (pv 1)) (pg_tup (by rfl) (pgs_cons (pg_name (i := 3) scBind.nd rfl (.inl rfl)) (pgs_cons (pg_name (i := 4) scBind.nd rfl (.inl rfl)) pgs_nil)))
      (pss_one (ps_set (i := 2) scBind.nd rfl (.inl rfl) (pe_tup (pa_cons (pv 0) (pa_cons (pv 3) (pa_cons (pv 4) (pa_cons (pv 2) pa_nil))))))))
    (pss_one (ps_ret (pv 2))), ?_⟩
  intro D q
  cases hv' with
  | @lst a xs _ ha hxs =>
  have hl : xs.length = rows.length := by rw [hxs.length, List.length_map]
  refine ⟨_, rfl, a, xs, rfl, .inl ⟨SqL.of ha, RT.for_Itv (K := K) (a := a) (xs := xs) (fun i σ H' => Gr T H H' ∧ ∃ u c d, σ = [some (.str (bw p)), some (.ref a), some u, c, d] ∧ Dx H' u (enc (mkB p (rows.drop (rows.length - i)) b))) ⟨Gr.refl H, v2, none, none, rfl, by rw [Nat.sub_zero, List.drop_length]; exact hv2⟩ (fun i σ H' hp => SqL.of (hp.1.lsts ha)) ?_ ?_⟩⟩
  · rintro i x σ H' hi hx ⟨g, u, c, d, rfl, hu⟩
    obtain ⟨t, ht⟩ : ∃ t, rows[rows.length - 1 - i]? = some t := ⟨_, List.getElem?_eq_getElem (by omega)⟩
    obtain ⟨x', hx', hdx⟩ := (g.dxA hxs).get (i := rows.length - 1 - i) (d := encR t) (by rw [List.getElem?_map, ht]; rfl)
    rw [hl] at hx
    rw [hx] at hx'
    cases hx'
    cases hdx with
    | @tup px ys _ hpx hys =>
    obtain ⟨y1, y2, rfl, hy1, hy2⟩ := dxA2 hys
    refine ⟨px, _, rfl, SqT.of hpx, rfl, _, _, rfl, _, _, rfl, rfl, ?_⟩
    have ed : ED T (tTup (tCons (tVar 0) (tCons (tVar 3) (tCons (tVar 4) (tCons (tVar 2) tNil))))) [some (.str (bw p)), some (.ref a), some u, some y1, some y2] H' (enc (mkB p (rows.drop (rows.length - (i + 1))) b)) := by
      have e : rows.drop (rows.length - (i + 1)) = t :: rows.drop (rows.length - i) := by
        have h2 : rows.length - 1 - i < rows.length := by omega
        rw [show rows.length - (i + 1) = rows.length - 1 - i by omega, List.drop_eq_getElem_cons h2, show rows.length - 1 - i + 1 = rows.length - i by omega]
        congr 1
        exact Option.some.inj ((List.getElem?_eq_getElem h2).symm.trans ht)
      rw [e]
      exact ed_tup (eda_cons (ed_var rfl (.str _)) (eda_cons (ed_var rfl hy1) (eda_cons (ed_var rfl hy2) (eda_cons (ed_var rfl hu) eda_nil))))
    show tAsg _ (gName 2) _ _ _
    exact s_set ed fun w H2 g2 hw => ⟨g.trans g2, w, _, _, rfl, hw⟩
  · rintro σ H' ⟨g, u, c, d, rfl, hu⟩
    rw [hl, Nat.sub_self, List.drop_zero] at hu
    exact ⟨_, rfl, q _ _ g hu⟩
end
end K1
namespace K1
open PySem PySem.Spec PyProof.Rows L2
/-! ### tuple(d) -/
section
variable {prog : Program} {w : World} {A : Around} {E : Value → Shared → Prop} {s : Shared} {Ty : String} {r d : Addr} {n : Nat} {Pt : Nat → Value → Prop} {OK : Heap → Prop}
theorem collect_src {Q : List Value → Shared → Prop} (S : PySem.W.KdlSrc prog w Ty r d n Pt OK) (hh : A.handled = none) (hok : OK s.heap) (hlen : n ≤ sizeLine)
    (hQ : ∀ (h' : Heap) (tk : Nat) (acc : Array Value), (∀ b o, s.heap.get? b = some o → h'.get? b = some o) → ItemsOf Pt acc n → Q acc.toList { s with heap := h', toks := tk }) :
    wpAny (model prog w) A (collect (.ref r)) Q E s := by
  unfold collect
  refine wpAny_bind (wpAny_runValue (codeAny_builtin F.entry_proto_collect ?_))
  rw [Around.under_plainId F.plain_proto_collect _]
  show wpAny _ A.in1 (newList [] >>= fun l => again (.builtin "list.__iadd__" ⟨[l, .ref r], []⟩)) _ _ s
  refine wpAny_bind (wpAny_newObj_type ?_)
  refine wpAny_pure ⟨plainId_quiet F.plain_list_iadd _, codeAny_builtin F.entry_list_iadd ?_⟩
  rw [Around.under_plainId F.plain_list_iadd _]
  show wpAny _ A.in1 (Builtin.List.listExtendWith (.ref s.heap.objs.size) (.ref r) (.ref s.heap.objs.size)) _ _ _
  have hS : (s.heap.push { cls := .type "list", data := .seq ([] : List Value).toArray }).get? s.heap.objs.size = some { cls := .type "list", data := .seq #[] 0 } := Heap.get?_push_size _ rfl
  obtain ⟨l1, l2⟩ := S.there _ hok
  refine wpAny_mono (PySem.W.kdl_extend (A := A) (R := fun rr s' => rr = .ok (.ret (.ref s.heap.objs.size)) ∧ ∃ (h' : Heap) (tk : Nat) (acc : Array Value) (c' : Nat), s' = { s with heap := h', toks := tk } ∧
      (∀ b o, s.heap.get? b = some o → h'.get? b = some o) ∧ h'.get? s.heap.objs.size = some { cls := .type "list", dict := none, data := .seq acc c', slots := #[] } ∧ ItemsOf Pt acc n)
    (s := { s with heap := s.heap.push { cls := .type "list", data := .seq ([] : List Value).toArray } }) S hh (S.keep _ _ hok fun b _ o e => Heap.get?_push_of_some _ e) s.heap.objs.size (Nat.ne_of_gt l1) (Nat.ne_of_gt l2) (.ref s.heap.objs.size) 0 hS
    (fun h' tk acc c' hk e hi => ⟨rfl, h', tk, acc, c', rfl, fun b o q => hk b o (Nat.ne_of_lt (Heap.lt_size q)) (Heap.get?_push_of_some _ q), e, hi⟩) hlen) (fun fin s' h => ?_) (fun e s' h => ?_)
  · cases fin with
    | done f =>
      obtain ⟨e, h', tk, acc, c', rfl, hk, hS', hi⟩ := h
      cases e
      show wpAny _ A (load s.heap.objs.size >>= _) _ _ _
      exact wpAny_bind (wpAny_load hS' (wpAny_pure (hQ h' tk acc hk hi)))
    | again c' =>
      refine ⟨h.1, codeAny_mono h.2 fun rr s'' hr' => ?_⟩
      obtain ⟨rfl, h', tk, acc, c', rfl, hk, hS', hi⟩ := hr'
      show wpAny _ A (load s.heap.objs.size >>= _) _ _ _
      exact wpAny_bind (wpAny_load hS' (wpAny_pure (hQ h' tk acc hk hi)))
  · exact absurd h.1 (by simp)
theorem code_tuple_new_src {Q₁ : Value → Shared → Prop} (S : PySem.W.KdlSrc prog w Ty r d n Pt OK) (hty : Ty = "dict") (hh : A.handled = none) (hok : OK s.heap) (hlen : n ≤ sizeLine)
    (h : ∀ (h' : Heap) (tk : Nat) (acc : Array Value), (∀ b o, s.heap.get? b = some o → h'.get? b = some o) → ItemsOf Pt acc n →
      Q₁ (.ref h'.objs.size) { s with heap := h'.push { cls := .type "tuple", data := .seq acc }, toks := tk }) :
    codeAny (model prog w) A (.call (.builtin "tuple.__new__") ⟨[.type "tuple", .ref r], []⟩) (wants Q₁ E) s := by
  subst hty
  refine codeAny_of_tree ?_
  show wpAny _ A.in1 (do checkBuiltinCall "tuple.__new__" ⟨[.type "tuple", .ref r], []⟩; again (.builtin "tuple.__new__" ⟨[.type "tuple", .ref r], []⟩)) _ _ s
  refine wpAny_bind (wpAny_of_eq (F.newCall_tuple_1 _) (wpAny_pure ⟨plainId_quiet F.plain_tuple_new _, codeAny_builtin F.entry_tuple_new ?_⟩))
  rw [Around.under_plainId F.plain_tuple_new _]
  have hsub := sub_tuple_self
  have hinit := init_tuple_lookup
  have hmh := madeHere_tuple
  have hTI : s.TypeIs (.ref r) "dict" := S.type _ hok
  have hh1 : A.in1.handled = none := hh
  wp_walk using wpAny_typeOf hTI, collect_src (A := A.in1) S hh1 hok hlen
  intro h' tk acc hk hacc
  show wpAny _ _ (Builtin.Tuple.tupleExact acc.toList.toArray >>= fun v => ret v) _ _ _
  unfold Builtin.Tuple.tupleExact
  refine wpAny_bind (wpAny_newObj_type ?_ (by show acc.toList.toArray.size ≤ sizeLine; simp only [Array.toArray_toList]; rw [hacc.1]; exact hlen))
  refine wpAny_pure ?_
  have e : acc.toList.toArray = acc := by simp
  rw [e]
  exact h h' tk acc hk hacc
theorem call_tuple_src {Q : Value → Shared → Prop} (S : PySem.W.KdlSrc prog w Ty r d n Pt OK) (hty : Ty = "dict") (hh : A.handled = none) (hok : OK s.heap) (hlen : n ≤ sizeLine)
    (hQ : ∀ (h' : Heap) (tk : Nat) (acc : Array Value), (∀ b o, s.heap.get? b = some o → h'.get? b = some o) → ItemsOf Pt acc n →
      Q (.ref h'.objs.size) { s with heap := h'.push { cls := .type "tuple", data := .seq acc }, toks := tk }) :
    wpAny (model prog w) A (call (.type "tuple") [.ref r]) Q E s := by
  refine callType_codes (Q₁ := fun obj s₁ => s₁.TypeIs obj "tuple" ∧ Q obj s₁) F.called_tuple (F.typeCall_tuple_1 _) F.entry_object_init
    (code_tuple_new_src (A := A.in1) S hty hh hok hlen fun h' tk acc hk hacc => ⟨⟨_, Heap.get?_push_size _ rfl, rfl⟩, hQ h' tk acc hk hacc⟩) fun obj s₁ h₁ => ?_
  exact ⟨h₁.1, F.args_object_init_2 obj _, object_init_meets F.called_tuple.init.lookup F.called_tuple.made (by decide) prog w A.in1 _ s₁ ⟨h₁.1, rfl, h₁.2⟩⟩
end
theorem call_tuple_dK {X : Cx} (hc : X.calm = true) : CallR X (.type "tuple") (fun xs H Q => ∃ p kvs, xs = [.ref p] ∧ H p = some (.dK kvs) ∧ ∀ q, H q = none → Q (.ref q) (upd H q (.tup (kvs.map fun kv => kV kv.1)))) := by
  intro pins s σ H xs us Q I r h
  obtain ⟨p, kvs, e, hk, q⟩ := h
  subst e
  obtain ⟨u, eu, rx⟩ := vals1 r
  subst eu
  obtain rfl : u = Value.ref p := rx
  obtain ⟨z, lo, vs, rk, hd⟩ := (show ObjOk X.prog X.w H s.heap p (.dK kvs) from I.hok p _ hk)
  obtain ⟨ep, hat⟩ := hd.dictAt
  have hl : kvs.length = vs.length := Paired.length rk
  refine call_tuple_src (PySem.W.kdl_dict (knd := mixKind X.prog X.w) (kvs := vs) (ep := ep) lo) rfl (I.ok.hd hc) hat (by rw [← hl]; exact z) fun h' tk acc hkeep hacc => ?_
  have I1 : Inv X pins σ H { s with heap := h', toks := tk } := I.kept hkeep
  have el : acc.toList.length = acc.size := by simp
  have hv : Vals (kvs.map fun kv => kV kv.1) acc.toList := by
    refine vals_of_at (by rw [List.length_map, el, hacc.1, hl]) fun j x w h1 h2 => ?_
    obtain ⟨k, y, hky, hi⟩ := hacc.2 j w (by rw [← Array.getElem?_toList]; exact h2)
    have e1 : (kvs.map (·.1))[j]? = some k := by
      rw [KV.keys rk, List.getElem?_map, hky] <;> rfl
    have e2 : (kvs.map fun kv => kV kv.1)[j]? = some (kV k) := by
      have e3 : (kvs.map fun kv => kV kv.1) = (kvs.map (·.1)).map kV := by rw [List.map_map] <;> rfl
      rw [e3, List.getElem?_map, e1] <;> rfl
    rw [e2] at h1
    cases h1
    exact keyIs_rel hi
  have I2 : Inv X pins σ (upd H h'.objs.size (.tup (kvs.map fun kv => kV kv.1))) { s with heap := h'.push { cls := .type "tuple", data := .seq acc }, toks := tk } :=
    I1.laid (t' := tk) (fun b o e => Heap.get?_push_of_some _ e) (Nat.le_refl _) (show ObjOk X.prog X.w _ _ _ (.tup (kvs.map fun kv => kV kv.1)) from ⟨by rw [List.length_map]; exact z, acc.toList, hv, by rw [Array.toArray_toList]; exact IsTup.new _ _⟩)
  exact ⟨.ref h'.objs.size, _, I2, rfl, q _ (I1.hok.fresh (Nat.le_refl _))⟩
end K1
namespace K1
open PySem PySem.Spec PyProof.Rows L2
theorem dxA_mkS {H : Hp} : ∀ l : List Str, DxA H (l.map V.str) (l.map PyData.str)
  | [] => .nil
  | c :: l => .cons (.str c) (dxA_mkS l)
/-! ### spine -/
abbrev sSpine : Stmt := topS 27
theorem scSpine : FnScope ["term", "arguments"] ["term"] (defScope sSpine) := ⟨rfl, rfl, rfl, by decide +kernel, rfl, by decide +kernel, by decide +kernel⟩
def hdT : Tm → Tm
  | .app f _ => hdT f
  | t => t
def argT : Tm → List Tm
  | .app f a => argT f ++ [a]
  | _ => []
theorem argT_len (t : Tm) : (argT t).length < cnt t := by
  induction t with
  | app f a i1 i2 => simp only [argT, cnt, List.length_append, List.length_singleton]; have := cnt_pos a; omega
  | _ => exact cnt_pos _
def rSpine : List PyData → PyData → Prop := fun ds r => ∃ t, ds = [enc t] ∧ cnt t ≤ 50000 ∧ r = .tuple [enc (hdT t), .list ((argT t).map enc)]
theorem nlA_enc (l : List Tm) : nlA (l.map enc) = true := nlA_all fun x h => by
  obtain ⟨p, _, rfl⟩ := List.mem_map.mp h
  exact nl_enc p
section
variable {P : Program} {w : World} {K : PySem.W.Frag} {mg : Str → Option Value} {base : Heap} {T : Tbl} {f fn fp : Addr} {fd fnd fpd : FuncData}
theorem ok_spine (F : Fun K "spine" "spine" sSpine f fd) : FnOk P w K mg base CX0 1 f fd ["term"] (spF T rSpine) := by
  refine mkF F scSpine (fun ds r ⟨d, e, _⟩ => by rw [e]; rfl) (fun cdv A outer s H vs E ds r hr hR hd hT => ?_)
  obtain ⟨t, rfl, hc, rfl⟩ := hR
  obtain ⟨v0, rfl, hv⟩ := dxA1 hd
  refine ⟨_, pss_cons (ps_set (i := 1) scSpine.nd rfl (.inl rfl) (pe_lst pa_nil))
    (pss_cons (ps_while PassesOwn.never (pt_cmpR op_eq (pxt 0) pe_str (nomark _))
      (pss_cons (ps_expr (pe_bm PySem.F.plainAttrs_list PySem.F.slot_list_append PySem.F.type_list_append mt_append (pv 1) (pa_cons (pxt 0) pa_nil)))
      (pss_one (ps_set (i := 0) scSpine.nd rfl (.inl rfl) (pxt 0)))))
    (pss_cons (ps_expr (pe_bm0 PySem.F.plainAttrs_list PySem.F.slot_list_reverse PySem.F.type_list_reverse mt_reverse (pv 1)))
    (pss_one (ps_ret (pe_tup (pa_cons (pv 0) (pa_cons (pv 1) pa_nil))))))), ?_⟩
  intro D q
  refine ⟨szl (by decide), fun l hl => ?_⟩
  refine ⟨fun m σ H1 => ∃ u v as, m = cnt u ∧ σ = [some v, some (.ref l)] ∧ Gr T H H1 ∧ Dx H1 v (enc u) ∧ (∃ xs, H1 l = some (.lst xs) ∧ DxA H1 xs (as.map enc)) ∧ hdT u = hdT t ∧ argT u ++ as.reverse = argT t,
    ⟨_, t, v0, [], rfl, rfl, Gr.new hl, (Gr.new (T := T) hl).dx hv, ⟨[], upd_same, .nil⟩, rfl, by simp⟩, ?_⟩
  rintro m σ H1 ⟨u, v, as, rfl, rfl, gr, hu, ⟨xs, hx, hxs⟩, e1, e2⟩
  obtain ⟨rest, hrest⟩ := enc_hd u
  have hu' := hu
  rw [hrest] at hu'
  have hlen : xs.length < 100000 := by
    have h1 := argT_len t
    rw [← e2, List.length_append, List.length_reverse] at h1
    rw [hxs.length, List.length_map]
    omega
  refine (et_test (T := T) (ed_eqS (ed_x rfl hu' (atI_nat (j := 0) rfl)) ed_str)) H1 (Gr.refl H1) _ fun H2 g2 => ?_
  have hx2 := g2.lsts hx
  have hu2 := g2.dx hu
  have hxs2 := g2.dxA hxs
  refine ite2 (fun hc2 => ?_) (fun hc2 => ?_)
  · obtain ⟨f, a, rfl⟩ := wd_app (of_decide_eq_true hc2)
    refine ⟨fun σ' H' => ∃ u v as, cnt u < cnt (.app f a) ∧ σ' = [some v, some (.ref l)] ∧ Gr T H H' ∧ Dx H' v (enc u) ∧ (∃ xs, H' l = some (.lst xs) ∧ DxA H' xs (as.map enc)) ∧ hdT u = hdT t ∧ argT u ++ as.reverse = argT t, fun σ' H' ⟨u, v, as, h1, h2⟩ => ⟨_, h1, u, v, as, rfl, h2⟩, ?_⟩
    refine s_app (T := T) (d := enc a) rfl hx2 (ed_x rfl hu2 rfl) hlen fun v3 H3 g3 hv3 => ?_
    have st3 := stt_mut (o := .lst (xs ++ [v3])) (g3.lsts hx2)
    have hv5 : Dx _ v (enc (.app f a)) := Dx.stt st3 _ _ (nl_enc _) (g3.dx hu2)
    refine s_set (T := T) (d := enc f) (ed_x rfl hv5 rfl) fun v4 H4 g4 hv4 => ?_
    refine ⟨f, v4, as ++ [a], by simp only [cnt]; omega, rfl, (((gr.trans g2).trans g3).mut hl (g3.lsts hx2)).trans g4, hv4, ⟨_, g4.lsts upd_same, ?_⟩, e1, ?_⟩
    · rw [List.map_append]
      exact g4.dxA (DxA.stt st3 _ _ (by rw [← List.map_append]; exact nlA_enc _) ((g3.dxA hxs2).append (.cons hv3 .nil)))
    · rw [List.reverse_append, List.reverse_singleton, List.singleton_append, ← e2, argT, List.append_assoc]
      rfl
  · have hn : ∀ f a, u ≠ .app f a := fun f a e => hc2 (by rw [e]; exact decide_eq_true rfl)
    have h1 : hdT u = u := by cases u <;> first | rfl | exact absurd rfl (hn _ _)
    have h2 : argT u = [] := by cases u <;> first | rfl | exact absurd rfl (hn _ _)
    have st3 := stt_mut (o := .lst xs.reverse) hx2
    refine ⟨_, rfl, .inl ⟨rfl, _, SqL.of hx2⟩, l, xs, rfl, rfl, hx2, ?_⟩
    have hr : DxA H2 xs.reverse ((as.reverse).map enc) := by
      have rv : ∀ {vs : List V} {ds : List PyData}, DxA H2 vs ds → DxA H2 vs.reverse ds.reverse := by
        intro vs ds h
        induction vs generalizing ds with
        | nil => cases h; exact .nil
        | cons v vs ih =>
          cases h with
          | cons a b => rw [List.reverse_cons, List.reverse_cons]; exact (ih b).append (.cons a .nil)
      rw [List.map_reverse]
      exact rv hxs2
    have gr3 := (gr.trans g2).mut (o := .lst xs.reverse) hl hx2
    rw [← e1, ← e2, h1, h2, List.nil_append] at q
    have ed : ED T (tTup (tCons (tVar 0) (tCons (tVar 1) tNil))) [some v, some (.ref l)] (upd H2 l (.lst xs.reverse)) (.tuple [enc u, .list (as.reverse.map enc)]) :=
      ed_tup (eda_cons (ed_var rfl (Dx.stt st3 _ _ (nl_enc _) hu2)) (eda_cons (ed_var rfl (.lst upd_same (DxA.stt st3 _ _ (nlA_enc _) hr))) eda_nil))
    exact ed _ (Gr.refl _) _ fun w H4 g4 hw => q w H4 (gr3.trans g4) hw
/-! ### lowest_free -/
abbrev sLow : Stmt := topS 20
theorem scLow : FnScope ["term", "depth", "lowest", "node", "around"] ["term", "depth"] (defScope sLow) := ⟨rfl, rfl, rfl, by decide +kernel, rfl, by decide +kernel, by decide +kernel⟩
def lwS (acc : Int) (p : Tm × Nat) : Int := match p.1 with
  | .var n => if (n : Int) + 1 - p.2 - 0 > acc then (n : Int) + 1 - p.2 - 0 else acc
  | _ => acc
def lwT (t : Tm) : Int := (nd t 0).foldl lwS 0
def rLow : List PyData → PyData → Prop := fun ds r => ∃ t, ds = [enc t, .int 0] ∧ cnt t ≤ 50000 ∧ r = .int (lwT t)
theorem foldl_take {α β : Type} (g : β → α → β) (b : β) (l : List α) {i : Nat} {x : α} (h : l[i]? = some x) : (l.take (i + 1)).foldl g b = g ((l.take i).foldl g b) x := by
  rw [List.take_succ, h, List.foldl_append]
  rfl
theorem ok_low (F : FunD K "lowest_free" "lowest_free" (defArgs sLow) (defBody sLow) (defScope sLow) [.int 0] [] f fd) (GN : FnOk P w K mg base CX0 2 fn fnd ["term"] (spF T rNodes)) (CN : Cal K mg "nodes" fn fnd ["term"]) (mm : mg "max" = none) :
    FnOk P w K mg base CX0 3 f fd ["term", "depth"] (spF T rLow) := by
  refine mkFD F scLow (fun ds r ⟨d, e, _⟩ => by rw [e]; rfl) (fun cdv A outer s H vs E ds r hr hR hd hT => ?_)
  obtain ⟨t, rfl, hc, rfl⟩ := hR
  obtain ⟨v0, v1, rfl, hv, hv1⟩ := dxA2 hd
  cases hv1
  refine ⟨_, pss_cons (ps_set (i := 2) scLow.nd rfl (.inl rfl) pe_int)
    (pss_cons (ps_for PassesOwn.never rfl (pi_list (pe_call GN hr rfl CN.m CN.kp CN.b .nil pass0 (pa_cons (pv 0) pa_nil))) (pg_tup (by rfl) (pgs_cons (pg_name (i := 3) scLow.nd rfl (.inl rfl)) (pgs_cons (pg_name (i := 4) scLow.nd rfl (.inl rfl)) pgs_nil)))
      (pss_one (ps_if (pt_cmpR op_eq (pxt 3) pe_str (nomark _)) (pss_one (ps_set (i := 2) scLow.nd rfl (.inl rfl) (pe_callB (call_max2 rfl) rfl mm PyProof.Rows.boot_max (pa_cons (pv 2) (pa_cons (pe_op op_sub (pe_op op_sub (pe_op op_add (pxt 3) pe_int) (pv 4)) (pv 1)) pa_nil))))) pss_nil)))
    (pss_one (ps_ret (pv 2)))), ?_⟩
  refine rd_asg ed_int fun v2 H1 g1 hv2 => ?_
  cases hv2
  intro D q
  refine ed_call (T := T) (dd := []) (ds := [enc t]) (g1.2 hT) (eda_cons (ed_var rfl (g1.dx hv)) eda_nil) (fun _ => .nil) ⟨t, rfl, hc, rfl⟩ H1 (Gr.refl _) _ fun v4 H4 g4 hv4 => ?_
  cases hv4 with
  | @lst a xs _ ha hxs =>
  have hl : xs.length = (nd t 0).length := by rw [hxs.length, List.length_map]
  refine ⟨a, rfl, ⟨xs, SqL.of ha⟩, for_list (K := K) (xs := xs) (fun i σ H' => Gr T H4 H' ∧ ∃ c d, σ = [some v0, some (.int 0), some (.int (((nd t 0).take i).foldl lwS 0)), c, d]) ⟨Gr.refl _, none, none, rfl⟩ (fun i σ H' _ hp => SqL.of (hp.1.lsts ha)) ?_ ?_⟩
  · rintro i x σ H' hx ⟨g, c, d, rfl⟩
    have hi := (List.getElem?_eq_some_iff.mp hx).1
    obtain ⟨p, hp⟩ : ∃ p, (nd t 0)[i]? = some p := ⟨_, List.getElem?_eq_getElem (by omega)⟩
    obtain ⟨x', hx', hdx⟩ := (g.dxA hxs).get (i := i) (d := encP p) (by rw [List.getElem?_map, hp]; rfl)
    rw [hx] at hx'
    cases hx'
    obtain ⟨u, a1⟩ := p
    rw [foldl_take lwS 0 (nd t 0) hp]
    cases hdx with
    | @tup px ys _ hpx hys =>
    obtain ⟨y1, y2, rfl, hy1, hy2⟩ := dxA2 hys
    cases hy2
    refine ⟨px, _, rfl, SqT.of hpx, rfl, _, _, rfl, _, _, rfl, rfl, ?_⟩
    obtain ⟨rest, hrest⟩ := enc_hd u
    have hu' := hy1
    rw [hrest] at hu'
    refine (et_test (T := T) (ed_eqS (ed_x rfl hu' (atI_nat (j := 0) rfl)) ed_str)) H' (Gr.refl H') _ fun H5 g5 => ?_
    refine ite2 (fun hc2 => ?_) (fun hc2 => ?_)
    · obtain ⟨n, rfl⟩ := wd_var (of_decide_eq_true hc2)
      refine s_set (T := T) (d := .int (lwS (((nd t 0).take i).foldl lwS 0) (.var n, a1))) ?_ fun w H6 g6 hw => ?_
      · exact ed_max2 (ed_var rfl (.int _)) (ed_sub (ed_sub (ed_add (ed_x rfl (g5.dx hy1) rfl) ed_int) (ed_var rfl (.int _))) (ed_var rfl (.int _)))
      · cases hw
        exact ⟨(g.trans g5).trans g6, _, _, rfl⟩
    · have e : lwS (((nd t 0).take i).foldl lwS 0) (u, a1) = ((nd t 0).take i).foldl lwS 0 := by
        cases u <;> first | rfl | exact absurd (decide_eq_true rfl) hc2
      rw [e]
      exact ⟨g.trans g5, _, _, rfl⟩
  · rintro σ H' ⟨g, c, d, rfl⟩
    rw [hl, List.take_length]
    exact ⟨_, rfl, q _ _ (g4.trans g) (.int _)⟩
/-! ### names_in, uses_name -/
abbrev sNames : Stmt := topS 23
theorem scNames : FnScope ["term", "found", "node", "_"] ["term"] (defScope sNames) := ⟨rfl, rfl, rfl, by decide +kernel, rfl, by decide +kernel, by decide +kernel⟩
def nmS (acc : List Str) (p : Tm × Nat) : List Str := match p.1 with
  | .leaf (.cst c) => if c ∈ acc then acc else acc ++ [c]
  | .leaf (.rcr c _) => if c ∈ acc then acc else acc ++ [c]
  | _ => acc
def nmT (t : Tm) : List Str := (nd t 0).foldl nmS []
def rNames : List PyData → PyData → Prop := fun ds r => ∃ t, ds = [enc t] ∧ cnt t ≤ 50000 ∧ r = .tuple ((nmT t).map .str)
def kvO (acc : List Str) : List (Key × V) := acc.map fun c => (Sum.inr c, V.bl true)
theorem putK_kvO (acc : List Str) (c : Str) : putK (kvO acc) (Sum.inr c) (V.bl true) = kvO (if c ∈ acc then acc else acc ++ [c]) := by
  have ha : ((kvO acc).any fun kv => decide (kv.1 = (Sum.inr c : Key))) = decide (c ∈ acc) := by
    unfold kvO
    rw [List.any_map, Bool.eq_iff_iff, List.any_eq_true]
    simp only [Function.comp_apply, decide_eq_true_eq]
    exact ⟨fun ⟨x, h1, h2⟩ => (Sum.inr.inj h2) ▸ h1, fun h => ⟨c, h, rfl⟩⟩
  unfold putK
  rw [ha]
  by_cases h : c ∈ acc
  · rw [if_pos (decide_eq_true h), if_pos h]
    unfold kvO
    rw [List.map_map]
    refine List.map_congr_left fun x _ => ?_
    simp only [Function.comp_apply]
    split <;> rfl
  · rw [if_neg (by rw [decide_eq_false h]; decide), if_neg h]
    unfold kvO
    rw [List.map_append]
    rfl
theorem nmS_len (acc : List Str) (p : Tm × Nat) : (nmS acc p).length ≤ acc.length + 1 := by
  unfold nmS
  split <;> (try split) <;> simp
theorem nm_len (l : List (Tm × Nat)) : ∀ acc, (l.foldl nmS acc).length ≤ acc.length + l.length := by
  induction l with
  | nil => intro acc; exact Nat.le_refl _
  | cons p l ih => intro acc; rw [List.foldl_cons, List.length_cons]; have := ih (nmS acc p); have := nmS_len acc p; omega
theorem ok_names (F : Fun K "names_in" "names_in" sNames f fd) (GN : FnOk P w K mg base CX0 2 fn fnd ["term"] (spF T rNodes)) (CN : Cal K mg "nodes" fn fnd ["term"]) (mt : mg "tuple" = none) :
    FnOk P w K mg base CX0 3 f fd ["term"] (spF T rNames) := by
  refine mkF F scNames (fun ds r ⟨d, e, _⟩ => by rw [e]; rfl) (fun cdv A outer s H vs E ds r hr hR hd hT => ?_)
  obtain ⟨t, rfl, hc, rfl⟩ := hR
  obtain ⟨v0, rfl, hv⟩ := dxA1 hd
  refine ⟨_, pss_cons (ps_set (i := 1) scNames.nd rfl (.inl rfl) pe_dnewK)
    (pss_cons (ps_for PassesOwn.never rfl (pi_list (pe_call GN hr rfl CN.m CN.kp CN.b .nil pass0 (pa_cons (pv 0) pa_nil))) (pg_tup (by rfl) (pgs_cons (pg_name (i := 2) scNames.nd rfl (.inl rfl)) (pgs_cons (pg_name (i := 3) scNames.nd rfl (.inl rfl)) pgs_nil)))
      (pss_one (ps_if (pt_cmpR op_in_seq (pxt 2) (pe_tup (pa_cons pe_str (pa_cons pe_str pa_nil))) (by rfl)) (pss_one (ps_dput (hu_of hr) (pv 1) (pxt 2) pe_bl rfl)) pss_nil)))
    (pss_one (ps_ret (pe_callTy (call_tuple_dK rfl) rfl mt (by decide +kernel) (pa_cons (pv 1) pa_nil))))), ?_⟩
  intro D q
  intro d hd0
  have g1 : Gr T H (upd H d (.dK [])) := Gr.new hd0
  refine ed_call (T := T) (dd := []) (ds := [enc t]) (g1.2 hT) (eda_cons (ed_var rfl (g1.dx hv)) eda_nil) (fun _ => .nil) ⟨t, rfl, hc, rfl⟩ _ (Gr.refl _) _ fun v4 H4 g4 hv4 => ?_
  have hd4 : H4 d = some (.dK []) := g4.1 d _ upd_same fun _ z => by cases z
  cases hv4 with
  | @lst a xs _ ha hxs =>
  have hl : xs.length = (nd t 0).length := by rw [hxs.length, List.length_map]
  refine ⟨a, rfl, ⟨xs, SqL.of ha⟩, for_list (K := K) (xs := xs) (fun i σ H' => Gr T H H' ∧ H' a = some (.lst xs) ∧ DxA H' xs ((nd t 0).map encP) ∧ H' d = some (.dK (kvO (((nd t 0).take i).foldl nmS []))) ∧ ∃ c e, σ = [some v0, some (.ref d), c, e]) ⟨g1.trans g4, ha, hxs, hd4, none, none, rfl⟩ (fun i σ H' _ hp => SqL.of hp.2.1) ?_ ?_⟩
  · rintro i x σ H' hx ⟨g, ha', hxs', hd', c, d2, rfl⟩
    have hi := (List.getElem?_eq_some_iff.mp hx).1
    obtain ⟨p, hp⟩ : ∃ p, (nd t 0)[i]? = some p := ⟨_, List.getElem?_eq_getElem (by omega)⟩
    obtain ⟨x', hx', hdx⟩ := hxs'.get (i := i) (d := encP p) (by rw [List.getElem?_map, hp]; rfl)
    rw [hx] at hx'
    cases hx'
    obtain ⟨u, a1⟩ := p
    rw [foldl_take nmS [] (nd t 0) hp]
    generalize hacc : ((nd t 0).take i).foldl nmS [] = acc at hd'
    cases hdx with
    | @tup px ys _ hpx hys =>
    obtain ⟨y1, y2, rfl, hy1, hy2⟩ := dxA2 hys
    cases hy2
    refine ⟨px, _, rfl, SqT.of hpx, rfl, _, _, rfl, _, _, rfl, rfl, ?_⟩
    obtain ⟨rest, hrest⟩ := enc_hd u
    have hu' := hy1
    rw [hrest] at hu'
    refine (et_test (T := T) (ed_inT ["const", "rec"] (ed_x rfl hu' (atI_nat (j := 0) rfl)) (ed_tup (eda_cons ed_str (eda_cons ed_str eda_nil))))) H' (Gr.refl H') _ fun H5 g5 => ?_
    have hd5 : H5 d = some (.dK (kvO acc)) := g5.1 d _ hd' fun _ z => by cases z
    refine ite2 (fun hc2 => ?_) (fun hc2 => ?_)
    · have hm := of_decide_eq_true hc2
      obtain ⟨c, rest2, e2, e3⟩ : ∃ c rest2, enc u = .tuple (.str (wd u) :: .str c :: rest2) ∧ nmS acc (u, a1) = if c ∈ acc then acc else acc ++ [c] := by
        cases u with
        | leaf l =>
          cases l with
          | sort l => exact absurd hm (of_decide_eq_false rfl)
          | cst c => exact ⟨c, _, rfl, rfl⟩
          | rcr c l => exact ⟨c, _, rfl, rfl⟩
        | var n => exact absurd hm (of_decide_eq_false rfl)
        | bind p x k b => cases p <;> exact absurd hm (of_decide_eq_false rfl)
        | app f a => exact absurd hm (of_decide_eq_false rfl)
        | letE x k v b => exact absurd hm (of_decide_eq_false rfl)
      have hy5 := g5.dx hy1
      rw [e2] at hy5
      refine ⟨_, rfl, ?_⟩
      refine (ed_x (T := T) (K := K) (σ := [some v0, some (.ref d), some y1, some (.int a1)]) (i := 2) rfl hy5 (atI_nat (j := 1) rfl)) H5 (Gr.refl H5) _ fun w H6 g6 hw => ?_
      cases hw
      have hd6 : H6 d = some (.dK (kvO acc)) := g6.1 d _ hd5 fun _ z => by cases z
      have hal : (kvO acc).length < 100000 := by
        have h1 := nm_len ((nd t 0).take i) []
        rw [hacc, List.length_nil, Nat.zero_add] at h1
        have h2 : ((nd t 0).take i).length ≤ (nd t 0).length := by rw [List.length_take]; omega
        rw [nd_len] at h2
        unfold kvO
        rw [List.length_map]
        omega
      refine ⟨d, _, rfl, DPut.k (k := Sum.inr c) hd6 (lszl hal), ?_⟩
      have st := stt_mutO (o := .dK (putK (kvO acc) (Sum.inr c) (V.bl true))) hd6 (fun _ z => by cases z)
      have nda : a ≠ d := fun z => by rw [z, hd'] at ha'; cases ha'
      refine ⟨((g.trans g5).trans g6).mutO hd0 hd6 (fun _ z => by cases z) (fun _ z => by cases z), by rw [upd_ne nda]; exact g6.lsts (g5.lsts ha'), DxA.stt st _ _ (nlA_encP _) (g6.dxA (g5.dxA hxs')), ?_, _, _, rfl⟩
      rw [upd_same, putK_kvO, e3]
    · have e : nmS acc (u, a1) = acc := by
        cases u with
        | leaf l =>
          cases l with
          | sort l => rfl
          | cst c => exact absurd (decide_eq_true (by exact List.mem_cons_self)) hc2
          | rcr c l => exact absurd (decide_eq_true (by exact List.mem_cons_of_mem _ List.mem_cons_self)) hc2
        | _ => rfl
      rw [e]
      exact ⟨g.trans g5, g5.lsts ha', g5.dxA hxs', hd5, _, _, rfl⟩
  · rintro σ H' ⟨g, ha', hxs', hd', c, d2, rfl⟩
    rw [hl, List.take_length] at hd'
    refine ⟨_, rfl, d, _, rfl, hd', fun p hp => q _ _ (g.trans (Gr.new hp)) (.tup upd_same ?_)⟩
    have e : (kvO ((nd t 0).foldl nmS [])).map (fun kv => kV kv.1) = (nmT t).map V.str := by
      unfold kvO nmT
      rw [List.map_map]
      rfl
    rw [e]
    exact dxA_mkS _
abbrev sUsesN : Stmt := topS 22
theorem scUsesN : FnScope ["term", "name"] ["term", "name"] (defScope sUsesN) := ⟨rfl, rfl, rfl, by decide +kernel, rfl, by decide +kernel, by decide +kernel⟩
def rUsesN : List PyData → PyData → Prop := fun ds r => ∃ t c, ds = [enc t, .str c] ∧ cnt t ≤ 50000 ∧ r = .bool (decide (c ∈ nmT t))
theorem ok_usesN (F : Fun K "uses_name" "uses_name" sUsesN f fd) (GN : FnOk P w K mg base CX0 3 fn fnd ["term"] (spF T rNames)) (CN : Cal K mg "names_in" fn fnd ["term"]) : FnOk P w K mg base CX0 4 f fd ["term", "name"] (spF T rUsesN) := by
  refine mkF F scUsesN (fun ds r ⟨d, c, e, _⟩ => by rw [e]; rfl) (fun cdv A outer s H vs E ds r hr hR hd hT => ?_)
  obtain ⟨t, c, rfl, hc, rfl⟩ := hR
  obtain ⟨v0, v1, rfl, hv, hv1⟩ := dxA2 hd
  refine ⟨_, pss_one (ps_ret (pe_cmpR op_in_seq (pv 1) (pe_call GN hr rfl CN.m CN.kp CN.b .nil pass0 (pa_cons (pv 0) pa_nil)) (by rfl))), ?_⟩
  exact rd_ret (ed_inT (nmT t) (ed_var rfl hv1) (ed_call (dd := []) hT (eda_cons (ed_var rfl hv) eda_nil) (fun _ => .nil) ⟨t, rfl, hc, rfl⟩))
end
end K1
namespace K1
open PySem PySem.Spec PyProof.Rows L2
/-! ### what == asks of terms -/
theorem lay_bw (p : Bool) : (PyData.str (bw p)).canLay0 = true := by cases p <;> decide +kernel
theorem lay_sort : (PyData.str ("sort" : Str)).canLay0 = true := by decide +kernel
theorem lay_const : (PyData.str ("const" : Str)).canLay0 = true := by decide +kernel
theorem lay_rec : (PyData.str ("rec" : Str)).canLay0 = true := by decide +kernel
theorem lay_var : (PyData.str ("var" : Str)).canLay0 = true := by decide +kernel
theorem lay_app : (PyData.str ("app" : Str)).canLay0 = true := by decide +kernel
theorem lay_let : (PyData.str ("let" : Str)).canLay0 = true := by decide +kernel
theorem lay_leaf {l : Lf} (h : LfOk l) : (encL l).canLay0 = true := by
  cases l with
  | sort l => show ((PyData.str "sort").canLay0 && (true && true)) = true; rw [lay_sort]; rfl
  | cst c => have h : (PyData.str c).canLay0 = true := h; show ((PyData.str "const").canLay0 && ((PyData.str c).canLay0 && true)) = true; rw [lay_const, h]; rfl
  | rcr c l => have h : (PyData.str c).canLay0 = true := h; show ((PyData.str "rec").canLay0 && ((PyData.str c).canLay0 && (true && true))) = true; rw [lay_rec, h]; rfl
theorem lay_enc : ∀ {t : Tm}, TmOk t → (enc t).canLay0 = true
  | .var n, _ => by show ((PyData.str "var").canLay0 && (true && true)) = true; rw [lay_var]; rfl
  | .leaf l, h => lay_leaf h
  | .bind p x k b, h => by
    obtain ⟨h1, h2, h3⟩ := h
    show ((PyData.str (bw p)).canLay0 && ((PyData.str x).canLay0 && ((enc k).canLay0 && ((enc b).canLay0 && true)))) = true
    rw [lay_bw, h1, lay_enc h2, lay_enc h3]; rfl
  | .app f a, h => by
    obtain ⟨h1, h2⟩ := h
    show ((PyData.str "app").canLay0 && ((enc f).canLay0 && ((enc a).canLay0 && true))) = true
    rw [lay_enc h1, lay_enc h2, lay_app]; rfl
  | .letE x k v b, h => by
    obtain ⟨h1, h2, h3, h4⟩ := h
    show ((PyData.str "let").canLay0 && ((PyData.str x).canLay0 && ((enc k).canLay0 && ((enc v).canLay0 && ((enc b).canLay0 && true))))) = true
    rw [h1, lay_enc h2, lay_enc h3, lay_enc h4, lay_let]; rfl
theorem depth_enc : ∀ t : Tm, (enc t).depth = dep t
  | .var n => by simp [enc, PyData.depth, PyData.depthAll, dep]
  | .leaf l => by cases l <;> simp [enc, encL, PyData.depth, PyData.depthAll, dep]
  | .bind p x k b => by
    show max 0 (max 0 (max (enc k).depth (max (enc b).depth 0))) + 1 = _
    rw [depth_enc k, depth_enc b]; simp [dep]
  | .app f a => by
    show max 0 (max (enc f).depth (max (enc a).depth 0)) + 1 = _
    rw [depth_enc f, depth_enc a]; simp [dep]
  | .letE x k v b => by
    show max 0 (max 0 (max (enc k).depth (max (enc v).depth (max (enc b).depth 0)))) + 1 = _
    rw [depth_enc k, depth_enc v, depth_enc b]; simp [dep]
theorem shaped_of {d : PyData} (h1 : d.canLay0 = true) (h2 : d.depth ≤ 64) : SeqAt.shaped d = true := by
  unfold SeqAt.shaped
  rw [h1, decide_eq_true h2]; rfl
theorem shaped_enc {t : Tm} (h1 : TmOk t) (h2 : dep t ≤ 64) : SeqAt.shaped (enc t) = true := shaped_of (lay_enc h1) (by rw [depth_enc]; exact h2)
theorem kids_ok {t : Tm} (h : TmOk t) (a : Nat) : ∀ p ∈ kidsT t a, TmOk p.1 := by
  cases t with
  | bind p x k b => obtain ⟨_, h2, h3⟩ := h; intro q hq; simp [kidsT] at hq; rcases hq with rfl | rfl <;> assumption
  | app f x => obtain ⟨h2, h3⟩ := h; intro q hq; simp [kidsT] at hq; rcases hq with rfl | rfl <;> assumption
  | letE x k v b => obtain ⟨_, h2, h3, h4⟩ := h; intro q hq; simp [kidsT] at hq; rcases hq with rfl | rfl | rfl <;> assumption
  | _ => intro q hq; simp [kidsT] at hq
theorem kids_dep (t : Tm) (a : Nat) : ∀ p ∈ kidsT t a, dep p.1 < dep t := by
  cases t with
  | bind p x k b => intro q hq; simp [kidsT] at hq; rcases hq with rfl | rfl <;> simp [dep] <;> omega
  | app f x => intro q hq; simp [kidsT] at hq; rcases hq with rfl | rfl <;> simp [dep] <;> omega
  | letE x k v b => intro q hq; simp [kidsT] at hq; rcases hq with rfl | rfl | rfl <;> simp [dep] <;> omega
  | _ => intro q hq; simp [kidsT] at hq
theorem layAll_of : ∀ {ds : List PyData}, (∀ d ∈ ds, d.canLay0 = true) → PyData.canLayAll0 ds = true
  | [], _ => by simp [PyData.canLayAll0]
  | d :: ds, h => by
    show (d.canLay0 && PyData.canLayAll0 ds) = true
    rw [h d List.mem_cons_self, layAll_of fun x hx => h x (List.mem_cons_of_mem _ hx)]; rfl
theorem depthAll_le : ∀ {ds : List PyData} {n : Nat}, (∀ d ∈ ds, d.depth ≤ n) → PyData.depthAll ds ≤ n
  | [], n, _ => Nat.zero_le _
  | d :: ds, n, h => by
    show max d.depth (PyData.depthAll ds) ≤ n
    have := h d List.mem_cons_self
    have := depthAll_le fun x hx => h x (List.mem_cons_of_mem _ hx)
    omega
theorem shaped_tup {ds : List PyData} {n : Nat} (h1 : ∀ d ∈ ds, d.canLay0 = true ∧ d.depth ≤ n) (hn : n < 64) : SeqAt.shaped (.tuple ds) = true := by
  refine shaped_of (layAll_of fun d hd => (h1 d hd).1) ?_
  have := depthAll_le (ds := ds) (n := n) fun d hd => (h1 d hd).2
  show PyData.depthAll ds + 1 ≤ 64
  omega
theorem shaped_lst {ds : List PyData} {n : Nat} (h1 : ∀ d ∈ ds, d.canLay0 = true ∧ d.depth ≤ n) (hn : n < 64) : SeqAt.shaped (.list ds) = true := by
  refine shaped_of (layAll_of fun d hd => (h1 d hd).1) ?_
  have := depthAll_le (ds := ds) (n := n) fun d hd => (h1 d hd).2
  show PyData.depthAll ds + 1 ≤ 64
  omega
theorem encP_ok {p : Tm × Nat} (h : TmOk p.1) : (encP p).canLay0 = true ∧ (encP p).depth ≤ dep p.1 + 1 := by
  constructor
  · show ((enc p.1).canLay0 && (true && true)) = true
    rw [lay_enc h]; rfl
  · show max (enc p.1).depth (max 0 0) + 1 ≤ _
    rw [depth_enc]; omega
/-! ### same -/
abbrev sSame : Stmt := topS 24
theorem scSame : FnScope ["one", "other", "pairs", "inner", "part", "_", "opposite"] ["one", "other"] (defScope sSame) := ⟨rfl, rfl, rfl, by decide +kernel, rfl, by decide +kernel, by decide +kernel⟩
def sm : Tm → Tm → Bool
  | .var n, b => decide (wd b = wd (.var n)) && PyData.eqv (enc (.var n)) (enc b)
  | .leaf l, b => decide (wd b = wd (.leaf l)) && PyData.eqv (encL l) (enc b)
  | .bind p _ k b, .bind p' _ k' b' => decide (bw p' = bw p) && (sm k k' && sm b b')
  | .app f a, .app f' a' => sm f f' && sm a a'
  | .letE _ k v b, .letE _ k' v' b' => sm k k' && (sm v v' && sm b b')
  | .bind _ _ _ _, _ => false
  | .app _ _, _ => false
  | .letE _ _ _ _, _ => false
def zipA (a b : Tm) : Bool := ((kidsT a 0).zip (kidsT b 0)).all fun p => sm p.1.1 p.2.1
theorem sm_ne {a b : Tm} (h : wd a ≠ wd b) : sm a b = false := by
  cases a with
  | var n => show (decide (wd b = wd (.var n)) && _) = false; rw [decide_eq_false (fun e => h e.symm)]; rfl
  | leaf l => show (decide (wd b = wd (.leaf l)) && _) = false; rw [decide_eq_false (fun e => h e.symm)]; rfl
  | bind p x k b1 =>
    cases b with
    | bind p' x' k' b' => show (decide (bw p' = bw p) && _) = false; rw [decide_eq_false (fun e => h e.symm)]; rfl
    | _ => rfl
  | app f a =>
    cases b with
    | app f' a' => exact absurd rfl h
    | _ => rfl
  | letE x k v b1 =>
    cases b with
    | letE x' k' v' b' => exact absurd rfl h
    | _ => rfl
theorem kids_eq {a b : Tm} (h : wd a = wd b) : (kidsT a 0).length = (kidsT b 0).length := by
  cases a with
  | var n => obtain ⟨m, rfl⟩ := wd_var h.symm; rfl
  | leaf l =>
    cases b with
    | leaf l' => rfl
    | var n => rfl
    | bind p x k b => cases l <;> cases p <;> exact absurd h (of_decide_eq_false rfl)
    | app f a => cases l <;> exact absurd h (of_decide_eq_false rfl)
    | letE x k v b => cases l <;> exact absurd h (of_decide_eq_false rfl)
  | bind p x k b1 =>
    obtain ⟨p', x', k', b', rfl⟩ := wd_bind (t := b) (by rw [← h]; cases p <;> exact of_decide_eq_true rfl)
    rfl
  | app f a => obtain ⟨f', a', rfl⟩ := wd_app h.symm; rfl
  | letE x k v b1 => obtain ⟨x', k', v', b', rfl⟩ := wd_let h.symm; rfl
theorem sm_kids {a b : Tm} (h : wd a = wd b) (hk : kidsT a 0 ≠ []) : sm a b = zipA a b := by
  cases a with
  | var n => exact absurd rfl hk
  | leaf l => exact absurd rfl hk
  | bind p x k b1 =>
    obtain ⟨p', x', k', b', rfl⟩ := wd_bind (t := b) (by rw [← h]; cases p <;> exact of_decide_eq_true rfl)
    have h : bw p = bw p' := h
    show (decide (bw p' = bw p) && (sm k k' && sm b1 b')) = (sm k k' && (sm b1 b' && true))
    rw [decide_eq_true h.symm, Bool.and_true, Bool.true_and]
  | app f a =>
    obtain ⟨f', a', rfl⟩ := wd_app h.symm
    show (sm f f' && sm a a') = (sm f f' && (sm a a' && true))
    rw [Bool.and_true]
  | letE x k v b1 =>
    obtain ⟨x', k', v', b', rfl⟩ := wd_let h.symm
    show (sm k k' && (sm v v' && sm b1 b')) = (sm k k' && (sm v v' && (sm b1 b' && true)))
    rw [Bool.and_true]
theorem sm_leaf {a b : Tm} (h : wd a = wd b) (hk : kidsT a 0 = []) : sm a b = PyData.eqv (enc a) (enc b) := by
  cases a with
  | var n => show (decide (wd b = wd (.var n)) && _) = _; rw [decide_eq_true h.symm, Bool.true_and]
  | leaf l => show (decide (wd b = wd (.leaf l)) && _) = _; rw [decide_eq_true h.symm, Bool.true_and]; rfl
  | bind p x k b1 => cases hk
  | app f a => cases hk
  | letE x k v b1 => cases hk
theorem sm_refl : ∀ {t : Tm}, TmOk t → sm t t = true
  | .var n, h => by show (decide _ && PyData.eqv _ _) = true; rw [decide_eq_true rfl, SeqAt.eqv_refl _ (lay_enc h)]; rfl
  | .leaf l, h => by show (decide _ && PyData.eqv _ _) = true; rw [decide_eq_true rfl]; exact SeqAt.eqv_refl _ (lay_leaf h)
  | .bind p x k b, h => by show (decide _ && (sm k k && sm b b)) = true; rw [decide_eq_true rfl, sm_refl h.2.1, sm_refl h.2.2]; rfl
  | .app f a, h => by show (sm f f && sm a a) = true; rw [sm_refl h.1, sm_refl h.2]; rfl
  | .letE x k v b, h => by show (sm k k && (sm v v && sm b b)) = true; rw [sm_refl h.2.1, sm_refl h.2.2.1, sm_refl h.2.2.2]; rfl
theorem sm_cnt : ∀ {a b : Tm}, sm a b = true → cnt a = cnt b
  | .var n, b, h => by
    have h : (decide (wd b = wd (.var n)) && _) = true := h
    rw [Bool.and_eq_true] at h
    obtain ⟨m, rfl⟩ := wd_var (of_decide_eq_true h.1)
    rfl
  | .leaf l, b, h => by
    have h : (decide (wd b = wd (.leaf l)) && _) = true := h
    rw [Bool.and_eq_true] at h
    have e := kids_eq (of_decide_eq_true h.1)
    cases b with
    | var n => rfl
    | leaf l => rfl
    | bind p x k b => exact absurd e (by simp [kidsT])
    | app f a => exact absurd e (by simp [kidsT])
    | letE x k v b => exact absurd e (by simp [kidsT])
  | .bind p x k b, .bind p' x' k' b', h => by
    have h : (decide _ && (sm k k' && sm b b')) = true := h
    rw [Bool.and_eq_true, Bool.and_eq_true] at h
    simp only [cnt, sm_cnt h.2.1, sm_cnt h.2.2]
  | .app f a, .app f' a', h => by
    have h : (sm f f' && sm a a') = true := h
    rw [Bool.and_eq_true] at h
    simp only [cnt, sm_cnt h.1, sm_cnt h.2]
  | .letE _ k v b, .letE _ k' v' b', h => by
    have h : (sm k k' && (sm v v' && sm b b')) = true := h
    rw [Bool.and_eq_true, Bool.and_eq_true] at h
    simp only [cnt, sm_cnt h.1, sm_cnt h.2.1, sm_cnt h.2.2]
def rSame (n : Nat) : List PyData → PyData → Prop := fun ds r => ∃ a b, ds = [enc a, enc b] ∧ dep a ≤ n ∧ TmOk a ∧ TmOk b ∧ dep a ≤ 50 ∧ dep b ≤ 50 ∧ cnt a ≤ 50000 ∧ r = .bool (sm a b)
theorem pt_never {X : Cx} {e : Expr} : PT X e (fun _ _ _ => False) := ⟨fun _ _ _ _ _ _ h => h.elim⟩
def encQ (p : Tm × Tm) : PyData := .tuple [enc p.1, enc p.2]
theorem nl_encQ (p : Tm × Tm) : nl (encQ p) = true := by show (nl (enc p.1) && (nl (enc p.2) && true)) = true; rw [nl_enc, nl_enc]; rfl
theorem nlA_encQ (l : List (Tm × Tm)) : nlA (l.map encQ) = true := nlA_all fun x h => by
  obtain ⟨p, _, rfl⟩ := List.mem_map.mp h
  exact nl_encQ p
def qsum (S : List (Tm × Tm)) : Nat := (S.map fun p => cnt p.1).sum
theorem qsum_cons (p : Tm × Tm) (S : List (Tm × Tm)) : qsum (p :: S) = cnt p.1 + qsum S := by simp [qsum]
theorem qsum_app (S U : List (Tm × Tm)) : qsum (S ++ U) = qsum S + qsum U := by simp [qsum]
theorem qlen {S : List (Tm × Tm)} : S.length ≤ qsum S := by
  induction S with
  | nil => exact Nat.le_refl _
  | cons p S ih => rw [qsum_cons, List.length_cons]; have := cnt_pos p.1; omega
def kz (a b : Tm) : List (Tm × Tm) := ((kidsT a 0).zip (kidsT b 0)).map fun p => (p.1.1, p.2.1)
theorem kz_len {a b : Tm} (h : wd a = wd b) : (kz a b).length = (kidsT a 0).length := by unfold kz; rw [List.length_map, List.length_zip, kids_eq h, Nat.min_self]
theorem kz_le (a b : Tm) : (kz a b).length ≤ 3 := by
  unfold kz
  rw [List.length_map, List.length_zip]
  have : (kidsT a 0).length ≤ 3 := by cases a <;> simp [kidsT]
  omega
theorem kz_all (a b : Tm) : (kz a b).all (fun p => sm p.1 p.2) = zipA a b := by unfold kz zipA; rw [List.all_map]; rfl
theorem qsum_rev (S : List (Tm × Tm)) : qsum S.reverse = qsum S := by unfold qsum; rw [List.map_reverse, List.sum_reverse]
theorem qsum_kz (a b : Tm) : qsum (kz a b) + 1 ≤ cnt a := by
  have h1 : qsum (kz a b) ≤ wsum (kidsT a 0) := by
    unfold kz qsum wsum
    generalize kidsT a 0 = x
    generalize kidsT b 0 = y
    induction x generalizing y with
    | nil => simp
    | cons p x ih =>
      cases y with
      | nil => simp
      | cons q y => simp only [List.zip_cons_cons, List.map_cons, List.sum_cons]; have := ih y; omega
  have h2 := wsum_kids a 0 []
  rw [List.append_nil] at h2
  have h3 : wsum [] = 0 := rfl
  omega
/-- the loop's word: what waits, the next one first -/
structure SmH (T : Tbl) (H0 : Hp) (lp : Addr) (S : List (Tm × Tm)) (H : Hp) : Prop where
  gr : Gr T H0 H
  nw : H0 lp = none
  wt : ∃ ws, H lp = some (.lst ws) ∧ DxA H ws (S.reverse.map encQ)
def okQ (p : Tm × Tm) : Prop := TmOk p.1 ∧ TmOk p.2 ∧ dep p.1 ≤ 50 ∧ dep p.2 ≤ 50
theorem okQ_kz {a b : Tm} (h : okQ (a, b)) : ∀ p ∈ kz a b, okQ p := by
  intro p hp
  obtain ⟨q, hq, rfl⟩ := List.mem_map.mp hp
  have h1 := (List.of_mem_zip hq).1
  have h2 := (List.of_mem_zip hq).2
  have d1 := kids_dep a 0 _ h1
  have d2 := kids_dep b 0 _ h2
  obtain ⟨o1, o2, o3, o4⟩ := h
  have o3 : dep a ≤ 50 := o3
  have o4 : dep b ≤ 50 := o4
  exact ⟨kids_ok o1 0 _ h1, kids_ok o2 0 _ h2, show dep q.1.1 ≤ 50 by omega, show dep q.2.1 ≤ 50 by omega⟩
section
variable {P : Program} {w : World} {K : PySem.W.Frag} {mg : Str → Option Value} {base : Heap} {T : Tbl} {f fn fp : Addr} {fd fnd fpd : FuncData}
theorem dep_pos (t : Tm) : 0 < dep t := by cases t <;> simp [dep]
theorem eqv_nil (ds : List PyData) : PyData.eqv (.tuple ds) (.tuple []) = ds.isEmpty := by cases ds <;> simp [PyData.eqv, PyData.eqvAll]
theorem ok_same (F : Fun K "same" "same" sSame f fd) (CS : Cal K mg "same" f fd ["one", "other"]) (GP : FnOk P w K mg base CX0 1 fp fpd ["term"] (spF T rParts)) (CP : Cal K mg "parts" fp fpd ["term"]) (mz : mg "zip" = none) :
    ∀ n, FnOk P w K mg base CX0 (n + 2) f fd ["one", "other"] (spF T (rSame n)) := fun n => by
  refine mkF F scSame (fun ds r ⟨d, c, e, _⟩ => by rw [e]; rfl) (fun cdv A outer s H vs E ds r hr hR hd hT => ?_)
  obtain ⟨a0, b0, rfl, hn, oa, ob, da, db, ca, rfl⟩ := hR
  obtain ⟨v0, v1, rfl, hv, hv1⟩ := dxA2 hd
  have hr1 : Room 1 (A.deeper (envOfC "same" (defScope sSame) s.heap.objs.size f cdv)) := hr.mono (by omega)
  refine ⟨_, pss_cons (ps_set (i := 2) scSame.nd rfl (.inl rfl) (pe_lst (pa_cons (pe_tup (pa_cons (pv 0) (pa_cons (pv 1) pa_nil))) pa_nil)))
    (pss_cons (ps_while PassesOwn.never (pt_truth (pv 2) (by intro _; rfl))
      (pss_cons (ps_asg (pe_bm0 PySem.F.plainAttrs_list PySem.F.slot_list_pop PySem.F.type_list_pop mt_pop (pv 2)) (pg_tup (by rfl) (pgs_cons (pg_name (i := 0) scSame.nd rfl (.inl rfl)) (pgs_cons (pg_name (i := 1) scSame.nd rfl (.inl rfl)) pgs_nil))))
      (pss_cons (ps_if (pt_cmpR op_ne (pxt 0) (pxt 1) (nomark _)) (pss_one (ps_ret pe_bl)) pss_nil)
      (pss_cons (ps_if (PW.pt (pw_and (pt_cmpR op_eq (pxt 0) pe_str (nomark _)) (pw_and1 pt_never))) pss_never pss_nil)
      (pss_cons (ps_set (i := 3) scSame.nd rfl (.inl rfl) (pe_call GP hr1 rfl CP.m CP.kp CP.b .nil pass0 (pa_cons (pv 0) pa_nil)))
      (pss_cons (ps_if (PW.pt (pw_and (pt_cmpR (op_eqD hr.units) (pv 3) (pe_tup pa_nil) (nomark _)) (pw_and1 (pt_cmpR (op_neD hr.units) (pv 0) (pv 1) (nomark _))))) (pss_one (ps_ret pe_bl)) pss_nil)
      (pss_one (ps_for PassesOwn.never rfl (RZ.pi_zipA rfl mz (pa_cons (pv 3) (pa_cons (pe_call GP hr1 rfl CP.m CP.kp CP.b .nil pass0 (pa_cons (pv 1) pa_nil)) pa_nil)))
          (pg_tup (by rfl) (pgs_cons (pg_tup (by rfl) (pgs_cons (pg_name (i := 4) scSame.nd rfl (.inl rfl)) (pgs_cons (pg_name (i := 5) scSame.nd rfl (.inl rfl)) pgs_nil))) (pgs_cons (pg_tup (by rfl) (pgs_cons (pg_name (i := 6) scSame.nd rfl (.inl rfl)) (pgs_cons (pg_name (i := 5) scSame.nd rfl (.inl rfl)) pgs_nil))) pgs_nil)))
          (pss_one (ps_expr (pe_bm PySem.F.plainAttrs_list PySem.F.slot_list_append PySem.F.type_list_append mt_append (pv 2) (pa_cons (pe_tup (pa_cons (pv 4) (pa_cons (pv 6) pa_nil))) pa_nil))))))))))))
    (pss_one (ps_ret pe_bl))), ?_⟩
  intro D q
  -- pairs = [(one, other)]
  refine ⟨v0, rfl, v1, rfl, szl (Nat.le_of_ble_eq_true rfl), fun p0 hp0 => ?_⟩
  refine ⟨szl (Nat.le_of_ble_eq_true rfl), fun lp hlp => ?_⟩
  have g2 := Gr.new (T := T) (o := .tup [v0, v1]) hp0
  have g3 := Gr.new (T := T) (o := .lst [.ref p0]) hlp
  have hlp1 : H lp = none := by
    by_cases e : lp = p0
    · rw [e, upd_same] at hlp; cases hlp
    · rw [upd_ne e] at hlp; exact hlp
  refine ⟨fun m σ H1 => ∃ S x y c d e g, σ = [x, y, some (.ref lp), c, d, e, g] ∧ m = qsum S ∧ SmH T H lp S H1 ∧ (∀ p ∈ S, okQ p) ∧ qsum S ≤ cnt a0 ∧ S.all (fun p => sm p.1 p.2) = sm a0 b0,
    ⟨_, [(a0, b0)], _, _, _, _, _, _, rfl, rfl, ⟨g2.trans g3, hlp1, _, upd_same, .cons (.tup (xs := [v0, v1]) ?_ (.cons ((g2.trans g3).dx hv) (.cons ((g2.trans g3).dx hv1) .nil))) .nil⟩, fun p hp => by rw [List.mem_singleton.mp hp]; exact ⟨oa, ob, da, db⟩, by simp [qsum], by simp⟩, ?_⟩
  · rw [upd_ne (fun e => by rw [← e, upd_same] at hlp; cases hlp), upd_same]
  rintro m σ H1 ⟨S, x, y, c, d, e, g, rfl, rfl, ⟨gr, nw, ⟨ws, hw, hws⟩⟩, okS, hq, hall⟩
  have hSl := qlen (S := S)
  refine t_list (K := K) (xs := ws) rfl hw ?_
  cases S with
  | nil =>
    have e0 : ws = [] := by cases hws; rfl
    subst e0
    refine iteF ?_
    rw [← hall] at q
    exact q _ _ gr (.bl true)
  | cons p S =>
    obtain ⟨a, b⟩ := p
    rw [List.reverse_cons, List.map_append] at hws
    obtain ⟨ws', u, rfl, hws', hu⟩ := dxA_snoc hws
    have hb : (!(ws' ++ [u]).isEmpty) = true := by cases ws' <;> rfl
    rw [hb]
    refine iteT ?_
    cases hu with
    | @tup pa xs _ hpa hxs =>
    obtain ⟨u1, u2, rfl, hu1, hu2⟩ := dxA2 hxs
    obtain ⟨oa1, ob1, da1, db1⟩ := okS (a, b) List.mem_cons_self
    have da1 : dep a ≤ 50 := da1
    have db1 : dep b ≤ 50 := db1
    have okS' : ∀ p ∈ S, okQ p := fun p hp => okS p (List.mem_cons_of_mem _ hp)
    refine ⟨fun σ' H' => ∃ S' x y c d e g, σ' = [x, y, some (.ref lp), c, d, e, g] ∧ qsum S' < qsum ((a, b) :: S) ∧ SmH T H lp S' H' ∧ (∀ p ∈ S', okQ p) ∧ S'.all (fun p => sm p.1 p.2) = sm a0 b0, fun σ' H' ⟨S', x, y, c, d, e, g, h1, h2, h3, h4, h5⟩ => ⟨_, h2, S', x, y, c, d, e, g, h1, rfl, h3, h4, by omega, h5⟩, ?_⟩
    have hst := stt_mut (o := .lst ws') hw
    refine ⟨_, rfl, .inl ⟨rfl, _, SqL.of hw⟩, lp, _, .ref pa, rfl, rfl, hw, by simp, ?_⟩
    rw [List.dropLast_concat]
    refine ⟨pa, _, rfl, SqT.of (hst _ _ hpa), rfl, _, _, rfl, _, _, rfl, rfl, ?_⟩
    have gr2 := gr.mut (o := .lst ws') nw hw
    have hua := Dx.stt hst _ _ (nl_enc a) hu1
    have hub := Dx.stt hst _ _ (nl_enc b) hu2
    have hw2 : (upd H1 lp (.lst ws')) lp = some (.lst ws') := upd_same
    have hws2 : DxA (upd H1 lp (.lst ws')) ws' (S.reverse.map encQ) := DxA.stt hst _ _ (nlA_encQ _) hws'
    obtain ⟨ra, era⟩ := enc_hd a
    obtain ⟨rb, erb⟩ := enc_hd b
    have ha' := hua
    have hb' := hub
    rw [era] at ha'
    rw [erb] at hb'
    -- if one[0] != other[0]
    refine (et_test (T := T) (ed_neS (ed_x rfl ha' (atI_nat (j := 0) rfl)) (ed_x rfl hb' (atI_nat (j := 0) rfl)))) _ (Gr.refl _) _ fun H3 g3 => ?_
    refine ite2 (fun hc => ?_) (fun hc => ?_)
    · have hf : sm a b = false := sm_ne (by simpa using hc)
      rw [← hall, List.all_cons, show sm (a, b).1 (a, b).2 = sm a b from rfl, hf] at q
      exact q _ _ (gr2.trans g3) (.bl false)
    have hw0 : wd a = wd b := by simpa using hc
    -- if one[0] == 'meta' and ..
    have hmeta : wd a ≠ "meta" := by
      cases a with
      | var n => exact of_decide_eq_true rfl
      | leaf l => cases l <;> exact of_decide_eq_true rfl
      | bind p x k b => cases p <;> exact of_decide_eq_true rfl
      | app f a => exact of_decide_eq_true rfl
      | letE x k v b => exact of_decide_eq_true rfl
    refine (et_test (T := T) (ed_eqS (ed_x rfl (g3.dx ha') (atI_nat (j := 0) rfl)) ed_str)) _ (Gr.refl _) _ fun H4 g4 => ?_
    rw [decide_eq_false hmeta]
    refine iteF (iteF ?_)
    -- inner = parts(one)
    have g34 := g3.trans g4
    refine ed_call (T := T) (dd := []) (ds := [enc a]) ((gr2.trans g34).2 hT) (eda_cons (ed_var rfl (g34.dx hua)) eda_nil) (fun _ => .nil) ⟨_, rfl, node_enc a, rfl⟩ _ (Gr.refl _) _ fun vi H5 g5 hvi => ?_
    rw [pairs_enc] at hvi
    have g35 := g34.trans g5
    -- if inner == () and one != other
    refine (et_and (T := T) (b := !PyData.eqv (enc a) (enc b)) (et_test (ed_eqD (ed_var rfl hvi) (ed_tup eda_nil) (shaped_tup (n := 60) (fun d hd => ?_) (by decide)) (by decide))) (fun _ => et_test (ed_neD (ed_var rfl (g35.dx hua)) (ed_var rfl (g35.dx hub)) (shaped_enc oa1 (by omega)) (shaped_enc ob1 (by omega))))) _ (Gr.refl _) _ fun H6 g6 => ?_
    · obtain ⟨p, hp, rfl⟩ := List.mem_map.mp hd
      have h1 := encP_ok (kids_ok oa1 0 p hp)
      have h2 := kids_dep a 0 p hp
      exact ⟨h1.1, by omega⟩
    rw [eqv_nil]
    have g36 := g35.trans g6
    have hcons : ((a, b) :: S).all (fun p => sm p.1 p.2) = (sm a b && S.all (fun p => sm p.1 p.2)) := List.all_cons
    rw [hcons] at hall
    refine ite2 (fun hc2 => ?_) (fun hc2 => ?_)
    · rw [Bool.and_eq_true] at hc2
      have hk : kidsT a 0 = [] := by simpa using hc2.1
      have hf : sm a b = false := by rw [sm_leaf hw0 hk]; simpa using hc2.2
      rw [← hall, hf] at q
      exact q _ _ (gr2.trans g36) (.bl false)
    have hz : sm a b = zipA a b := by
      by_cases hk : kidsT a 0 = []
      · rw [sm_leaf hw0 hk]
        have hk2 : kidsT b 0 = [] := List.eq_nil_of_length_eq_zero (by rw [← kids_eq hw0, hk]; rfl)
        rw [hk] at hc2
        have : PyData.eqv (enc a) (enc b) = true := by simpa using hc2
        rw [this]
        unfold zipA
        rw [hk]
        rfl
      · exact sm_kids hw0 hk
    -- for (part, _), (opposite, _) in zip(inner, parts(other))
    refine ⟨vi, rfl, ?_⟩
    refine ed_call (T := T) (dd := []) (ds := [enc b]) ((gr2.trans g36).2 hT) (eda_cons (ed_var rfl (g36.dx hub)) eda_nil) (fun _ => .nil) ⟨_, rfl, node_enc b, rfl⟩ _ (Gr.refl _) _ fun vb H7 g7 hvb => ?_
    rw [pairs_enc] at hvb
    have hvi7 := (g6.trans g7).dx hvi
    cases hvi7 with
    | @tup pi is _ hpi his =>
    cases hvb with
    | @tup pb ys _ hpb hys =>
    have hil : is.length = (kidsT a 0).length := by rw [his.length, List.length_map]
    have hyl : ys.length = (kidsT b 0).length := by rw [hys.length, List.length_map]
    have hl : is.length = ys.length := by rw [hil, hyl, kids_eq hw0]
    have g37 := g36.trans g7
    have hw7 : H7 lp = some (.lst ws') := g37.lsts hw2
    have hkz : (kz a b).length = is.length := by rw [kz_len hw0, hil]
    have hkz3 := kz_le a b
    refine ⟨pi, pb, is, ys, rfl, .inr ⟨SqT.of hpi, SqT.of hpb, RZ.for_zipT (K := K) (a := pi) (b := pb) hl (fun i σ' H' => (∃ d e g, σ' = [some u1, some u2, some (.ref lp), some (.ref pi), d, e, g]) ∧ SmH T H lp (((kz a b).take i).reverse ++ S) H' ∧ H' pi = some (.tup is) ∧ H' pb = some (.tup ys) ∧ DxA H' is ((kidsT a 0).map encP) ∧ DxA H' ys ((kidsT b 0).map encP))
      ⟨⟨_, _, _, rfl⟩, ⟨gr2.trans g37, nw, ⟨_, hw7, g37.dxA hws2⟩⟩, hpi, hpb, his, hys⟩ (fun i σ' H' h => ⟨SqT.of h.2.2.1, SqT.of h.2.2.2.1⟩) ?_ ?_⟩⟩
    · rintro i x y Tq σ' H' hx hy ⟨⟨d', e', g', rfl⟩, ⟨gr8, _, ⟨ws8, hw8, hws8⟩⟩, hpi8, hpb8, his8, hys8⟩ hTq
      have hi := (List.getElem?_eq_some_iff.mp hx).1
      obtain ⟨p1, hp1⟩ : ∃ p, (kidsT a 0)[i]? = some p := ⟨_, List.getElem?_eq_getElem (by omega)⟩
      obtain ⟨p2, hp2⟩ : ∃ p, (kidsT b 0)[i]? = some p := ⟨_, List.getElem?_eq_getElem (by omega)⟩
      have gq := Gr.new (T := T) (o := .tup [x, y]) hTq
      obtain ⟨x', hx', hdx⟩ := his8.get (i := i) (d := encP p1) (by rw [List.getElem?_map, hp1]; rfl)
      rw [hx] at hx'
      cases hx'
      obtain ⟨y', hy', hdy⟩ := hys8.get (i := i) (d := encP p2) (by rw [List.getElem?_map, hp2]; rfl)
      rw [hy] at hy'
      cases hy'
      have hdx2 := gq.dx hdx
      have hdy2 := gq.dx hdy
      cases hdx2 with
      | @tup px zs _ hpx hzs =>
      obtain ⟨z1, z2, rfl, hz1, hz2⟩ := dxA2 hzs
      cases hz2
      cases hdy2 with
      | @tup py yz _ hpy hyz =>
      obtain ⟨y1, y2, rfl, hy1, hy2⟩ := dxA2 hyz
      cases hy2
      refine ⟨Tq, _, rfl, SqT.of upd_same, rfl, _, _, rfl, ⟨px, _, rfl, SqT.of hpx, rfl, _, _, rfl, _, _, rfl, rfl, ?_⟩⟩
      refine ⟨_, _, rfl, ⟨py, _, rfl, SqT.of hpy, rfl, _, _, rfl, _, _, rfl, rfl, ?_⟩⟩
      have hn8 : ws8.length < 100000 := by
        rw [hws8.length, List.length_map, List.length_reverse, List.length_append, List.length_reverse, List.length_take]
        rw [List.length_cons] at hSl
        omega
      refine ⟨rfl, ?_⟩
      refine s_app (T := T) (d := encQ (p1.1, p2.1)) rfl (gq.lsts hw8) (ed_tup (eda_cons (ed_var rfl hz1) (eda_cons (ed_var rfl hy1) eda_nil))) hn8 fun v6 H9 g9 hv6 => ?_
      have gq9 := gq.trans g9
      have st9 := stt_mut (o := .lst (ws8 ++ [v6])) (gq9.lsts hw8)
      refine ⟨⟨_, _, _, rfl⟩, ⟨(gr8.trans gq9).mut nw (gq9.lsts hw8), nw, ⟨_, upd_same, ?_⟩⟩, st9 _ _ (gq9.tups hpi8), st9 _ _ (gq9.tups hpb8), DxA.stt st9 _ _ (nlA_encP _) (gq9.dxA his8), DxA.stt st9 _ _ (nlA_encP _) (gq9.dxA hys8)⟩
      have hzi : (kz a b)[i]? = some (p1.1, p2.1) := by
        unfold kz
        rw [List.getElem?_map, show ((kidsT a 0).zip (kidsT b 0))[i]? = some (p1, p2) from by rw [List.getElem?_zip_eq_some]; exact ⟨hp1, hp2⟩]
        rfl
      have et : ((kz a b).take (i + 1)).reverse ++ S = (p1.1, p2.1) :: (((kz a b).take i).reverse ++ S) := by
        rw [List.take_succ, hzi, List.reverse_append]
        rfl
      rw [et, List.reverse_cons, List.map_append]
      exact DxA.stt st9 _ _ (by rw [← List.map_append]; exact nlA_encQ _) ((gq9.dxA hws8).append (.cons hv6 .nil))
    · rintro σ' H' ⟨⟨d', e', g', rfl⟩, hN, _, _, _, _⟩
      rw [← hkz, List.take_length] at hN
      refine ⟨_, _, _, _, _, _, _, rfl, ?_, hN, fun p hp => ?_, ?_⟩
      · rw [qsum_app, qsum_rev, qsum_cons]
        have := qsum_kz a b
        show _ < cnt a + qsum S
        omega
      · rcases List.mem_append.mp hp with h | h
        · exact okQ_kz ⟨oa1, ob1, da1, db1⟩ p (List.mem_reverse.mp h)
        · exact okS' p h
      · rw [List.all_append, List.all_reverse, kz_all, ← hz, hall]
end
end K1
namespace K1
open PySem PySem.Spec PyProof.Rows L2
/-! ### a list that is written by a callee -/
structure Ml (T : Tbl) (l : Addr) (H H' : Hp) : Prop where
  fr : ∀ b o, b ≠ l → H b = some o → (∀ ps, o ≠ .tbl ps) → H' b = some o
  tb : Tb T H → Tb T H'
theorem StT.trans {H H1 H2 : Hp} (a : StT H H1) (b : StT H1 H2) : StT H H2 := fun x xs h => b x xs (a x xs h)
section
variable {T : Tbl} {H H1 H2 : Hp} {l : Addr}
theorem Ml.refl : Ml T l H H := ⟨fun _ _ _ e _ => e, id⟩
theorem Ml.trans (a : Ml T l H H1) (b : Ml T l H1 H2) : Ml T l H H2 := ⟨fun c o n e t => b.fr c o n (a.fr c o n e t) t, fun h => b.tb (a.tb h)⟩
theorem Gr.ml (g : Gr T H H1) : Ml T l H H1 := ⟨fun b o _ e n => g.1 b o e n, g.2⟩
theorem Ml.set {xs ys : List V} (h : H l = some (.lst xs)) : Ml T l H (upd H l (.lst ys)) := by
  refine ⟨fun c o n e _ => by rw [upd_ne n]; exact e, fun t => ?_⟩
  have ne : ∀ b u, H b = some u → (∀ ys, u ≠ .lst ys) → b ≠ l := fun b u e n z => by
    rw [z, h] at e
    exact n _ (Option.some.inj e).symm
  intro p hp
  obtain ⟨rs, a1, a2, a3⟩ := t p hp
  refine ⟨rs, by rw [upd_ne (ne _ _ a1 fun _ z => by cases z)]; exact a1, a2, fun pos cv hc => ?_⟩
  obtain ⟨c, b1, b2⟩ := a3 pos cv hc
  exact ⟨c, b1, by rw [upd_ne (ne _ _ b2 fun ys z => by unfold LamX.CodeO at z; cases z)]; exact b2⟩
theorem Ml.stt {xs : List V} (m : Ml T l H H1) (h : H l = some (.lst xs)) : StT H H1 := fun a ys e => m.fr a _ (fun z => by rw [z, h] at e; cases e) e fun ps z => (by cases z)
theorem Ml.lsts (m : Ml T l H H1) {a : Addr} {xs : List V} (n : a ≠ l) (h : H a = some (.lst xs)) : H1 a = some (.lst xs) := m.fr a _ n h fun ps z => (by cases z)
theorem Ml.gr {H0 : Hp} (g : Gr T H0 H) (h0 : H0 l = none) (m : Ml T l H H1) : Gr T H0 H1 := ⟨fun b o e n => m.fr b o (ne_of_none e h0) (g.1 b o e n) n, fun t => m.tb (g.2 t)⟩
end
theorem yes_run {σ : L2.St} {H : Hp} {te : TE} {Q : VK} {R : Hp → Prop} (h : te σ H Q) : tYes σ H (fun b H3 => if b = true then te σ H3 Q else R H3) := by
  show (if true = true then te σ H Q else R H)
  rw [if_pos rfl]
  exact h
theorem wipe_set1' {σ : L2.St} {i : Nat} {x : V} : wipe ((wipe σ [i]).set i (some x)) [i] = wipe σ [i] := by
  show ((σ.set i none).set i (some x)).set i none = σ.set i none
  rw [List.set_set, List.set_set]
theorem lc_walk {K : PySem.W.Frag} {a D : Addr} {xs : List V} {σ : L2.St} {H2 : Hp} {g : TG} {tt : TT} {te : TE} {vs : List Nat} {Q : VK} (Pv : Nat → Hp → Prop) (h0 : Pv 0 H2) (hl : ∀ i H, i ≤ xs.length → Pv i H → SqT K H a xs)
    (hs : ∀ i x H, xs[i]? = some x → Pv i H → g x (wipe σ vs) H fun σ2 H2 => wipe σ2 vs = wipe σ vs ∧ tt σ2 H2 fun b H3 => if b = true then te σ2 H3 fun y H4 => ∃ acc, H4 D = some (.lst acc) ∧ acc.length < sizeLine ∧ Pv (i + 1) (upd H4 D (.lst (acc ++ [y]))) else Pv (i + 1) H3)
    (hd : ∀ H, Pv xs.length H → Q (.ref D) H) :
    ∃ W : Nat → Nat → Hp → Prop, (∃ m, W 0 m H2) ∧ ∀ i m H, W i m H → ((Itt K a).stop i H ∧ Q (.ref D) H) ∨ ((Itt K a).go i H ∧ ∃ Nx : Hp → Prop, (∀ H', Nx H' → ∃ m', m' < m ∧ W (i + 1) m' H') ∧
      ∀ x H', (Itt K a).yld i H x H' → g x (wipe σ vs) H' fun σ2 H2 => wipe σ2 vs = wipe σ vs ∧ tt σ2 H2 fun b H3 => if b = true then te σ2 H3 fun y H4 => ∃ acc, H4 D = some (.lst acc) ∧ acc.length < sizeLine ∧ Nx (upd H4 D (.lst (acc ++ [y]))) else Nx H3) := by
  refine ⟨fun i m H => m = xs.length - i ∧ i ≤ xs.length ∧ Pv i H, ⟨xs.length, by simp, Nat.zero_le _, h0⟩, ?_⟩
  rintro i m H ⟨rfl, hi, p⟩
  have q := hl i H hi p
  by_cases hlt : i < xs.length
  · refine .inr ⟨⟨xs, xs[i], q, by simp [hlt]⟩, Pv (i + 1), fun H' p' => ⟨xs.length - (i + 1), by omega, rfl, hlt, p'⟩, fun x H' y => ?_⟩
    obtain ⟨e, y⟩ := y
    subst e
    exact hs i x _ (y xs q) p
  · have e : i = xs.length := by omega
    subst e
    exact .inl ⟨⟨xs, q, Nat.le_refl _⟩, hd H p⟩
abbrev sReb : Stmt := topS 14
theorem scReb : FnScope ["node", "done", "word", "_"] ["node", "done"] (defScope sReb) := ⟨rfl, rfl, rfl, by decide +kernel, rfl, by decide +kernel, by decide +kernel⟩
/-- what takes a node's parts off a list -/
def spReb (T : Tbl) : Sp := fun vs H Q _ => ∃ (t u : Tm) (v : V) (l : Addr) (ws us : List V) (ks : List Tm), vs = [v, .ref l] ∧ Tb T H ∧ Dx H v (enc t) ∧ (∀ n, t ≠ .var n) ∧ H l = some (.lst (ws ++ us)) ∧ DxA H us (ks.reverse.map enc) ∧ WK t ks u ∧
  ∀ v' H', Ml T l H H' → H' l = some (.lst ws) → Dx H' v' (enc u) → Q v' H'
section
variable {P : Program} {w : World} {K : PySem.W.Frag} {mg : Str → Option Value} {base : Heap} {T : Tbl} {f fp fx : Addr} {fd fpd fxd : FuncData}
/-- xs.pop() -/
theorem e_pop {i : Nat} {l : Addr} {xs : List V} {x : V} {σ : L2.St} {H : Hp} {Q : VK} (hl : σ[i]? = some (some (.ref l))) (hH : H l = some (.lst (xs ++ [x]))) (k : Q x (upd H l (.lst xs))) : tBM0 K "list" rPop (tVar i) σ H Q :=
  ⟨_, hl, .inl ⟨rfl, _, SqL.of hH⟩, l, _, x, rfl, rfl, hH, by simp, by rw [List.dropLast_concat]; exact k⟩
theorem ok_reb (F : Fun K "rebuilt" "rebuilt" sReb f fd) (GP : FnOk P w K mg base CX0 1 fp fpd ["term"] (spF T rParts)) (CP : Cal K mg "parts" fp fpd ["term"])
    (GX : FnOk P w K mg base CX0 1 fx fxd ["term", "fresh"] (spF T rWith)) (CX : Cal K mg "with_parts" fx fxd ["term", "fresh"]) : FnOk P w K mg base CX0 2 f fd ["node", "done"] (spReb T) := by
  refine F.ok scReb (fun vs H Q E ⟨_, _, _, _, _, _, _, e, _⟩ => by rw [e]; rfl) (fun cdv A outer s H vs Q E hr h => ?_)
  obtain ⟨t, u, v, l, ws, us, ks, rfl, hT, hv, hnv, hl, hus, hwk, q⟩ := h
  have pop : ∀ {X : Cx} (i : Nat) {x : Str} {apos cpos pos : Pos}, X.N[i]? = some x → Vis X.env.scope x → (x == ("__debug__" : Str)) = false → (x == ("__classdict__" : Str)) = false → (apos.endLine == cpos.line) = true → attributeBase (.Name x pos) "pop" X.env (eval (.Name x pos) X.env) = eval (.Name x pos) X.env →
      PE X (.Call (.Attribute (.Name x pos) "pop" apos) [] [] cpos) (tBM0 X.K "list" rPop (tVar i)) := fun {X} i {x apos cpos pos} h1 h2 h3 h4 h5 h6 => pe_bm0 PySem.F.plainAttrs_list PySem.F.slot_list_pop PySem.F.type_list_pop mt_pop (pv i h1 h2 h3 h4) h6 h5
  refine ⟨_, pss_cons (ps_set (i := 2) scReb.nd rfl (.inl rfl) (pxt 0))
    (pss_cons (ps_if (pt_cmpR op_eq (pv 2) pe_str (nomark _)) (pss_one (ps_ret (pe_tup (pa_cons (pv 2) (pa_cons (pop (x := "done") 1 rfl (by first | exact .inl rfl | exact .inr (.inl rfl) | exact .inr (.inr rfl)) (by decide) (by decide) rfl rfl) (pa_cons (pop (x := "done") 1 rfl (by first | exact .inl rfl | exact .inr (.inl rfl) | exact .inr (.inr rfl)) (by decide) (by decide) rfl rfl) pa_nil)))))) pss_nil)
    (pss_cons (ps_if (pt_cmpR op_in_seq (pv 2) (pe_tup (pa_cons pe_str (pa_cons pe_str pa_nil))) (by rfl)) (pss_one (ps_ret (pe_tup (pa_cons (pv 2) (pa_cons (pxt 0) (pa_cons (pop (x := "done") 1 rfl (by first | exact .inl rfl | exact .inr (.inl rfl) | exact .inr (.inr rfl)) (by decide) (by decide) rfl rfl) (pa_cons (pop (x := "done") 1 rfl (by first | exact .inl rfl | exact .inr (.inl rfl) | exact .inr (.inr rfl)) (by decide) (by decide) rfl rfl) pa_nil))))))) pss_nil)
    (pss_cons (ps_if (pt_cmpR op_in_seq (pv 2) (pe_tup (pa_cons pe_str (pa_cons pe_str pa_nil))) (by rfl)) (pss_one (ps_ret (pe_call GX hr rfl CX.m CX.kp CX.b .nil pass0 (pa_cons (pv 0) (pa_cons (pe_lc (own := [("_", 3)]) (g := gName 3) (tt := tYes) (te := tBM0 K "list" rPop (tVar 1)) rfl scReb.nd
        (pi_tup (pe_call GP hr rfl CP.m CP.kp CP.b .nil pass0 (pa_cons (pv 0) pa_nil))) (blkOk_by (N := ["node", "done", "word", "_"]) (sc := defScope sReb) (by decide +kernel)) (fun _ _ _ _ _ => pg_name (i := 3) scReb.nd rfl (Or.inl rfl)) (fun _ _ _ _ _ => pts_nil)
        (fun _ _ _ _ _ => pop (x := "done") 1 rfl (by first | exact .inl rfl | exact .inr (.inl rfl) | exact .inr (.inr rfl)) (by decide) (by decide) rfl rfl)) pa_nil))))) pss_nil)
    (pss_one (ps_ret (pe_ifExp (pt_cmpR op_eq (pv 2) pe_str (nomark _)) (pxt 0) (pv 0))))))), ?_⟩
  obtain ⟨rest, hrest⟩ := enc_hd t
  have hv' := hv
  rw [hrest] at hv'
  refine s_set (T := T) (d := .str (wd t)) (ed_x rfl hv' (atI_nat (j := 0) rfl)) fun v1 H1 g1 hw => ?_
  cases hw
  refine (et_test (T := T) (ed_eqS (b := "app") (ed_var (d := .str (wd t)) rfl (.str _)) ed_str)) H1 (Gr.refl _) _ fun H2 g2 => ?_
  have g12 := g1.trans g2
  refine ite2 (fun hc => ?_) (fun hc => ?_)
  · obtain ⟨a, b, rfl⟩ := wd_app (of_decide_eq_true hc)
    cases hwk with
    | app _ _ a' b' =>
    obtain ⟨w1, w2, rfl, h1, h2⟩ := dxA2 hus
    have hl2 := g12.lsts hl
    rw [show ws ++ [w1, w2] = (ws ++ [w1]) ++ [w2] by simp] at hl2
    refine ⟨_, rfl, e_pop rfl hl2 (e_pop rfl upd_same ⟨szl (Nat.le_of_ble_eq_true rfl), fun p hp => ?_⟩)⟩
    have m := (Ml.set (T := T) (ys := ws ++ [w1]) hl2).trans (Ml.set (T := T) (ys := ws) upd_same)
    have m2 := m.trans (Gr.ml (l := l) (Gr.new (T := T) (o := .tup [.str "app", w2, w1]) hp))
    have st := StT.trans g12.stt (Ml.stt m2 hl2)
    refine q _ _ ((Gr.ml g12).trans m2) (by rw [upd_ne (fun e => by rw [← e, upd_same] at hp; cases hp), upd_same]) (.tup upd_same (.cons (.str _) (.cons (Dx.stt st _ _ (nl_enc _) h2) (.cons (Dx.stt st _ _ (nl_enc _) h1) .nil))))
  refine (et_test (T := T) (ed_inT ["pi", "lam"] (ed_var (d := .str (wd t)) rfl (.str _)) (ed_tup (eda_cons ed_str (eda_cons ed_str eda_nil))))) H2 (Gr.refl _) _ fun H3 g3 => ?_
  have g13 := g12.trans g3
  refine ite2 (fun hc2 => ?_) (fun hc2 => ?_)
  · obtain ⟨p, x, a, b, rfl⟩ := wd_bind (of_decide_eq_true hc2)
    cases hwk with
    | bind _ _ _ _ a' b' =>
    obtain ⟨w1, w2, rfl, h1, h2⟩ := dxA2 hus
    have hl2 := g13.lsts hl
    rw [show ws ++ [w1, w2] = (ws ++ [w1]) ++ [w2] by simp] at hl2
    refine ⟨_, rfl, ?_⟩
    refine (ed_x (T := T) (K := K) (c := 1) (d := .str x) rfl (g13.dx hv) rfl) H3 (Gr.refl _) _ fun vx H4 g4 hx => ?_
    cases hx
    have g14 := g13.trans g4
    have hl3 := g4.lsts hl2
    refine e_pop rfl hl3 (e_pop rfl upd_same ⟨szl (Nat.le_of_ble_eq_true rfl), fun p' hp => ?_⟩)
    have m := (Ml.set (T := T) (ys := ws ++ [w1]) hl3).trans (Ml.set (T := T) (ys := ws) upd_same)
    have m2 := m.trans (Gr.ml (l := l) (Gr.new (T := T) (o := .tup [.str (bw p), .str x, w2, w1]) hp))
    have st := StT.trans g14.stt (Ml.stt m2 hl3)
    exact q _ _ ((Gr.ml g14).trans m2) (by rw [upd_ne (fun e => by rw [← e, upd_same] at hp; cases hp), upd_same]) (.tup upd_same (.cons (.str _) (.cons (.str _) (.cons (Dx.stt st _ _ (nl_enc _) h2) (.cons (Dx.stt st _ _ (nl_enc _) h1) .nil)))))
  refine (et_test (T := T) (ed_inT ["let", "meta"] (ed_var (d := .str (wd t)) rfl (.str _)) (ed_tup (eda_cons ed_str (eda_cons ed_str eda_nil))))) H3 (Gr.refl _) _ fun H4 g4 => ?_
  have g14 := g13.trans g4
  refine ite2 (fun hc3 => ?_) (fun hc3 => ?_)
  · have hlet : wd t = "let" := by
      have h := of_decide_eq_true hc3
      simp only [List.mem_cons, List.not_mem_nil, or_false] at h
      refine h.elim id fun z => ?_
      cases t with
      | var n => exact absurd z (of_decide_eq_false rfl)
      | leaf l => cases l <;> exact absurd z (of_decide_eq_false rfl)
      | bind p x k b => cases p <;> exact absurd z (of_decide_eq_false rfl)
      | app f a => exact absurd z (of_decide_eq_false rfl)
      | letE x k v b => exact absurd z (of_decide_eq_false rfl)
    obtain ⟨x, a, b, c, rfl⟩ := wd_let hlet
    cases hwk with
    | letE _ _ _ _ a' b' c' =>
    obtain ⟨w1, w2, w3, rfl, h1, h2, h3⟩ := dxA3 hus
    have key : ∀ Q' : VK, (∀ H' D, Ml T l H4 H' → H' l = some (.lst ws) → H' D = some (.lst [w3, w2, w1]) → Q' (.ref D) H') →
        tLc (iTup K (tCall (spF T rParts) [] E0 (tCons (tVar 0) tNil))) (gName 3) tYes (tBM0 K "list" rPop (tVar 1)) [3] [some v, some (.ref l), some (.str "let"), none] H4 Q' := fun Q' hq => by
      refine ed_call (T := T) (dd := []) (ds := [enc (.letE x a b c)]) (g14.2 hT) (eda_cons (ed_var rfl (g14.dx hv)) eda_nil) (fun _ => .nil) ⟨_, rfl, node_enc _, rfl⟩ _ (Gr.refl _) _ fun v4 H5 g5 hv4 => ?_
      rw [pairs_enc] at hv4
      cases hv4 with
      | @tup pk zs _ hpk hzs =>
      have hzl : zs.length = 3 := by rw [hzs.length]; rfl
      have hl5 := (g14.trans g5).lsts hl
      refine ⟨pk, rfl, ⟨zs, SqT.of hpk⟩, fun D hD => ?_⟩
      have nDl : l ≠ D := fun e => by rw [← e, hl5] at hD; cases hD
      have hlD : (upd H5 D (.lst [])) l = some (.lst (ws ++ [w1, w2, w3])) := by rw [upd_ne nDl]; exact hl5
      have base : Ml T l H5 (upd H5 D (.lst [])) := (Gr.new (T := T) (o := .lst []) hD).ml
      have mD : ∀ {H0 : Hp} {xs ys : List V}, Ml T l H5 H0 → H0 D = some (.lst xs) → Ml T l H5 (upd H0 D (.lst ys)) := fun {H0 xs ys} m e => by
        have st := Ml.set (T := T) (l := D) (ys := ys) e
        exact ⟨fun b o n e2 t => st.fr b o (ne_of_none e2 hD) (m.fr b o n e2 t) t, fun t => st.tb (m.tb t)⟩
      refine lc_walk (K := K) (xs := zs) (D := D) (Q := Q') (fun i H => Ml T l H5 H ∧ H l = some (.lst (ws ++ [w1, w2, w3].take (3 - i))) ∧ H D = some (.lst ([w3, w2, w1].take i))) ⟨base, hlD, upd_same⟩ (fun i H' _ p => SqT.of (p.1.stt hl5 _ _ hpk)) ?_ ?_
      · rintro i x H' hx ⟨m, e1, e2⟩
        have hi : i < 3 := by rw [← hzl]; exact (List.getElem?_eq_some_iff.mp hx).1
        refine ⟨wipe_set1', ?_⟩
        refine yes_run ?_
        obtain h | h | h : i = 0 ∨ i = 1 ∨ i = 2 := by omega
        all_goals subst h
        · exact e_pop (xs := ws ++ [w1, w2]) (x := w3) rfl (by rw [e1]; simp) ⟨[], by rw [upd_ne (Ne.symm nDl)]; exact e2, by decide, mD (m.trans (Ml.set e1)) (by rw [upd_ne (Ne.symm nDl)]; exact e2), by rw [upd_ne nDl, upd_same]; rfl, upd_same⟩
        · exact e_pop (xs := ws ++ [w1]) (x := w2) rfl (by rw [e1]; simp) ⟨[w3], by rw [upd_ne (Ne.symm nDl)]; exact e2, (by decide : 1 < sizeLine), mD (m.trans (Ml.set e1)) (by rw [upd_ne (Ne.symm nDl)]; exact e2), by rw [upd_ne nDl, upd_same]; rfl, upd_same⟩
        · exact e_pop (xs := ws) (x := w1) rfl (by rw [e1]; simp) ⟨[w3, w2], by rw [upd_ne (Ne.symm nDl)]; exact e2, (by decide : 2 < sizeLine), mD (m.trans (Ml.set e1)) (by rw [upd_ne (Ne.symm nDl)]; exact e2), by rw [upd_ne nDl, upd_same]; simp, upd_same⟩
      · rintro H' ⟨m, e1, e2⟩
        rw [hzl] at e1 e2
        exact hq _ _ ((Gr.ml g5).trans m) (by rw [e1]; simp) e2
    refine ⟨v, rfl, key _ fun H' D m e1 e2 => ?_⟩
    have st := StT.trans g14.stt (m.stt (g14.lsts hl))
    exact ⟨[enc (.letE x a b c), .list ([a', b', c'].map enc)], _, m.tb (g14.2 hT), .cons (Dx.stt st _ _ (nl_enc _) hv) (.cons (.lst e2 (.cons (Dx.stt st _ _ (nl_enc _) h3) (.cons (Dx.stt st _ _ (nl_enc _) h2) (.cons (Dx.stt st _ _ (nl_enc _) h1) .nil)))) .nil), ⟨_, [a', b', c'], _, rfl, .letE .., rfl⟩, fun v' H'' g hv' => q _ _ (((Gr.ml g14).trans m).trans (Gr.ml g)) (g.lsts e1) hv'⟩
  · have hleaf : ∃ lf, t = .leaf lf := by
      have h1 : wd t ≠ "app" := by simpa using hc
      have h2 : wd t ∉ (["pi", "lam"] : List Str) := fun z => hc2 (decide_eq_true z)
      have h3 : wd t ∉ (["let", "meta"] : List Str) := fun z => hc3 (decide_eq_true z)
      cases t with
      | leaf l => exact ⟨l, rfl⟩
      | var n => exact absurd rfl (hnv n)
      | bind p x k b => cases p <;> exact absurd (by simp [wd, bw]) h2
      | app f a => exact absurd rfl h1
      | letE x k v b => exact absurd (by simp [wd]) h3
    obtain ⟨lf, rfl⟩ := hleaf
    cases hwk with
    | leaf =>
    have e0 : us = [] := by cases hus; rfl
    subst e0
    have nw : wd (.leaf lf) ≠ "whole" := by cases lf <;> exact of_decide_eq_true rfl
    refine (et_test (T := T) (ed_eqS (b := "whole") (ed_var (d := .str (wd (.leaf lf))) rfl (.str _)) ed_str)) H4 (Gr.refl _) _ fun H5 g5 => ?_
    rw [decide_eq_false nw]
    refine iteF ⟨v, rfl, q _ _ (Gr.ml (g14.trans g5)) (by rw [(g14.trans g5).lsts hl, List.append_nil]) ((g14.trans g5).dx hv)⟩
end
end K1
namespace K1
open PySem PySem.Spec PyProof.Rows L2
/-! ### a function that is handed on -/
section
variable (P : Program) (w : World) (K : PySem.W.Frag) (mg : Str → Option Value) (base : Heap) (T : Tbl)
/-- f(n, d) gives g n d, from this state on -/
def ChgRun (k : Nat) (f : Addr) (g : Nat → Nat → Tm) (H : Hp) (s : Shared) : Prop := PySem.W.FnAt f s.heap ∧
  ∀ (A : Around) (outer : List Env) (us : List Value) (n d : Nat) (Q : VK) (E : XK), Room k A → Env0 P w K mg base A outer s H → Tb T H → Vals [.int n, .int d] us → d ≤ n → (∀ v H2, Gr T H H2 → Dx H2 v (enc (g n d)) → Q v H2) →
    codeAny (model P w) A (.call (.ref f) ⟨us, []⟩) (CR CX0 outer P w H s Q E) s
/-- .. and as long as some objects stay -/
def Chg (k : Nat) (f : Addr) (g : Nat → Nat → Tm) (outer : List Env) (H : Hp) (s : Shared) : Prop := ∃ cs : List Addr,
  (∀ b ∈ cs, H b = none ∧ (∃ o, s.heap.get? b = some o) ∧ b ∉ frs outer) ∧
  ∀ (H' : Hp) (s' : Shared), (∀ b ∈ cs, H' b = none ∧ ∀ o, s.heap.get? b = some o → s'.heap.get? b = some o) → Gr T H H' → HOk P w H' s'.heap → ChgRun P w K mg base T k f g H' s'
end
section
variable {P : Program} {w : World} {K : PySem.W.Frag} {mg : Str → Option Value} {base : Heap} {T : Tbl} {k : Nat} {f f0 : Addr} {g : Nat → Nat → Tm}
theorem Chg.later {N : List Str} {qual : Str} {sc : Scope} {cdv : Value} {A : Around} {outer : List Env} {s s1 : Shared} {H H1 : Hp} {E : XK} {pins : List (Addr × Obj)} {σ : L2.St} (C : Chg P w K mg base T k f g outer H s)
    (I : Inv (cxOf CX0 P w K mg base N qual sc f0 cdv A outer s H E).nox pins σ H1 s1) (gr : Gr T H H1) : Chg P w K mg base T k f g (cxOf CX0 P w K mg base N qual sc f0 cdv A outer s H E).nox.stack H1 s1 ∧ ChgRun P w K mg base T k f g H1 s1 := by
  obtain ⟨cs, h1, h2⟩ := C
  have kp : ∀ b ∈ cs, H1 b = none ∧ ∀ o, s.heap.get? b = some o → s1.heap.get? b = some o := fun b hb => by
    obtain ⟨a1, ⟨o, ho⟩, a3⟩ := h1 b hb
    exact ⟨I.base.free b o ho a1 (fun z => nomatch (show b ∈ ([] : List Addr) from z)), fun o' ho' => I.base.keep b o' ho' a1 a3 (fun z => nomatch (show b ∈ ([] : List Addr) from z))⟩
  refine ⟨⟨cs, fun b hb => ?_, fun H' s' h3 g2 hok => h2 H' s' (fun b hb => ⟨(h3 b hb).1, fun o ho => (h3 b hb).2 o ((kp b hb).2 o ho)⟩) (gr.trans g2) hok⟩, h2 H1 s1 kp gr I.hok⟩
  obtain ⟨a1, ⟨o, ho⟩, a3⟩ := h1 b hb
  refine ⟨(kp b hb).1, ⟨o, (kp b hb).2 o ho⟩, fun z => ?_⟩
  rcases List.mem_cons.mp (show b ∈ s.heap.objs.size :: frs outer from z) with e | e
  · rw [e] at ho
    exact Nat.lt_irrefl _ (Heap.lt_size ho)
  · exact a3 e
variable {X : Cx}
/-- x(e, ..), x a name that holds such a function -/
def tChg (T : Tbl) (H0 : Hp) (i : Nat) (f : Addr) (g : Nat → Nat → Tm) (t : TA) : TE := fun σ H Q => σ[i]? = some (some (.ref f)) ∧ Gr T H0 H ∧
  t σ H fun vs H1 => ∃ n d : Nat, vs = [.int n, .int d] ∧ d ≤ n ∧ Gr T H0 H1 ∧ Tb T H1 ∧ ∀ v H2, Gr T H1 H2 → Dx H2 v (enc (g n d)) → Q v H2
theorem pe_chg {H0 : Hp} {i : Nat} {x : Str} {e : Expr} {es : List Expr} {t : TA} {p pos : Pos} (hc : ∀ pins σ H s, Inv X pins σ H s → Gr T H0 H → ChgRun X.prog X.w X.K X.mg X.base T k f g H s) (hr : Room k X.A) (hN : X.N[i]? = some x) (hv : Vis X.env.scope x) (ha : PA X (e :: es) t)
    (hd : (x == ("__debug__" : Str)) = false := by decide) (hcd : (x == ("__classdict__" : Str)) = false := by decide)
    (he : starEach (e :: es) X.env = (false, eval e X.env) :: starEach es X.env := by rfl) (hpl : (backTo pos (starEach es X.env)).any (·.1) = false := by rfl) :
    PE X (.Call (.Name x p) (e :: es) [] pos) (tChg T H0 i f g t) := by
  refine ⟨fun pins s σ H Q I h => ?_⟩
  obtain ⟨hs, g0, ht⟩ := h
  refine wpAny_Call_Name_kw (thn ((pe_var (pos := p) hN hv hd hcd).run pins s σ H (fun v H1 => v = .ref f ∧ H1 = H) I ⟨.ref f, hs, rfl, rfl⟩) fun u s1 ⟨v, H1, I1, r1, q1⟩ => ?_)
  obtain ⟨ev, eH⟩ := q1
  subst ev
  rw [eH] at I1
  obtain rfl : u = Value.ref f := r1
  refine PySem.W.callWith_F (first := []) (hc pins σ H s1 I1 g0).1 (thn (ha.run pos pins s1 σ H _ I1 ht) fun us s2 ⟨vs, H2, I2, r, n, d, e1, hnd, g2, t2, q⟩ => ?_) he hpl
  subst e1
  have C := hc pins σ H2 s2 I2 g2
  refine ⟨C.1, ?_⟩
  show wpAny _ _ (call (.ref f) us) _ _ _
  refine wpAny_call (codeAny_mono (C.2 X.A X.stack us n d Q E0 hr I2.env0 t2 r hnd q) fun r s' hq => ?_)
  cases r with
  | error e => exact (show False from hq).elim
  | ok fl =>
    cases fl with
    | ret u => exact I2.after hq
    | next => exact False.elim hq
    | brk => exact False.elim hq
    | cont => exact False.elim hq
end
section
variable {P : Program} {w : World} {K : PySem.W.Frag} {mg : Str → Option Value} {base : Heap} {T : Tbl}
/-- a def's run, its promise told of the very state -/
theorem run_Z {x qual : Str} {st : Stmt} {f : Addr} {fd : FuncData} {N ps : List Str} {k : Nat} {A : Around} {outer : List Env} {s : Shared} {H : Hp} {us : List Value} {vs : List V} {Q : VK} {E : XK} (F : Fun K x qual st f fd) (S : FnScope N ps (defScope st)) (B : Binds K fd ps [])
    (hr : Room (k + 1) A) (e0 : Env0 P w K mg base A outer s H) (r : Vals vs us) (hl : vs.length = ps.length)
    (hbody : ∀ (cdv : Value), Room k (A.deeper (envOfC qual (defScope st) s.heap.objs.size f cdv)) →
      ∃ t, PSs (cxOf CX0 P w K mg base N qual (defScope st) f cdv A outer s H E).nox (defBody st) t ∧ t { nx := fun _ H' => Q .non H', rt := Q } (L2.start N vs) H) :
    codeAny (model P w) A (.call (.ref f) ⟨us, []⟩) (CR CX0 outer P w H s Q E) s := by
  obtain ⟨oc, od, kV, doc, pm, an, cdv, ct, osl, rfl, lk, hcd⟩ := F.ex
  have KX : K.In s.heap := e0.mod.kin.keeps fun b o e => (e0.bs b o e).1
  have hb := B s us KX (by rw [List.append_nil, ← r.length]; exact hl)
  rw [List.append_nil] at hb
  refine LamX.run_ofS lk hcd S hr e0 hb r hl fun hr' => ?_
  obtain ⟨t, h, q⟩ := hbody cdv hr'
  exact ⟨t, h.nox, q⟩
end
/-! ### with_variables -/
abbrev sWv : Stmt := topS 15
theorem scWv : FnScope ["term", "start", "change", "done", "node", "around"] ["term", "start", "change"] (defScope sWv) := ⟨rfl, rfl, rfl, by decide +kernel, rfl, by decide +kernel, by decide +kernel⟩
section
variable (P : Program) (w : World) (K : PySem.W.Frag) (mg : Str → Option Value) (base : Heap) (T : Tbl)
/-- the promise, told of the very state -/
def WvZ (n k : Nat) (outer : List Env) (s : Shared) (H : Hp) (vs : List V) (Q : VK) : Prop := ∃ (t : Tm) (a : Nat) (f : Addr) (g : Nat → Nat → Tm) (v : V), vs = [v, .int a, .ref f] ∧ Dx H v (enc t) ∧ dep t ≤ n ∧ cnt t ≤ 50000 ∧ Tb T H ∧ Chg P w K mg base T k f g outer H s ∧
  ∀ v' H', Gr T H H' → Dx H' v' (enc (wv g a t)) → Q v' H'
def WvOk (fw : Addr) (n k : Nat) : Prop := ∀ (A : Around) (outer : List Env) (s : Shared) (H : Hp) (us : List Value) (vs : List V) (Q : VK) (E : XK), Room (n + k + 2) A → Env0 P w K mg base A outer s H → Vals vs us → WvZ P w K mg base T n k outer s H vs Q →
  codeAny (model P w) A (.call (.ref fw) ⟨us, []⟩) (CR CX0 outer P w H s Q E) s
end
section
variable {X : Cx} {T : Tbl} {n k : Nat} {fw : Addr}
def tWv (X : Cx) (T : Tbl) (n k : Nat) (t : TA) : TE := fun σ H Q => t σ H fun vs H1 => ∀ pins s, Inv X pins σ H1 s → WvZ X.prog X.w X.K X.mg X.base T n k X.stack s H1 vs Q
theorem pe_wv {e : Expr} {es : List Expr} {t : TA} {p pos : Pos} (W : WvOk X.prog X.w X.K X.mg X.base T fw n k) (hr : Room (n + k + 2) X.A) (hg : Gl X "with_variables") (hm : X.mg "with_variables" = some (.ref fw)) (hk : PySem.W.keepIn X.K (.ref fw) = true) (ha : PA X (e :: es) t)
    (he : starEach (e :: es) X.env = (false, eval e X.env) :: starEach es X.env := by rfl) (hpl : (backTo pos (starEach es X.env)).any (·.1) = false := by rfl) :
    PE X (.Call (.Name "with_variables" p) (e :: es) [] pos) (tWv X T n k t) := by
  refine ⟨fun pins s σ H Q I h => ?_⟩
  refine wpAny_Call_Name_kw (ld_glob I hg hm ?_ (by decide))
  refine PySem.W.callWith_K (h₀ := X.base) I.ok.mod.kin hk (thn (ha.run pos pins s σ H _ I h) fun us s1 ⟨vs, H1, I1, r, q⟩ => ⟨I1.kIn, ?_⟩) he hpl
  refine wpAny_call (codeAny_mono (W X.A X.stack s1 H1 us vs Q E0 hr I1.env0 r (q pins s1 I1)) fun r s' hq => ?_)
  cases r with
  | error e => exact (show False from hq).elim
  | ok fl =>
    cases fl with
    | ret u => exact I1.after hq
    | next => exact False.elim hq
    | brk => exact False.elim hq
    | cont => exact False.elim hq
end
abbrev ndp (p : Tm × Nat) : List (Tm × Nat) := nd p.1 p.2
theorem ndp_kids (p : Tm × Nat) : ndp p = p :: (kidsT p.1 p.2).flatMap ndp := nd_kids p.1 p.2
theorem suf (t : Tm) (a : Nat) : ∀ j, ∃ S : List (Tm × Nat), (nd t a).drop j = S.flatMap ndp
  | 0 => ⟨[(t, a)], by simp⟩
  | j + 1 => by
    obtain ⟨S, h⟩ := suf t a j
    rw [← List.tail_drop, h]
    cases S with
    | nil => exact ⟨[], rfl⟩
    | cons p S => exact ⟨kidsT p.1 p.2 ++ S, by rw [List.flatMap_cons, ndp_kids, List.flatMap_append]; rfl⟩
theorem flat_inj : ∀ {S U : List (Tm × Nat)}, S.flatMap ndp = U.flatMap ndp → S = U
  | [], [], _ => rfl
  | [], p :: U, h => by rw [List.flatMap_cons, ndp_kids] at h; cases h
  | p :: S, [], h => by rw [List.flatMap_cons, ndp_kids] at h; cases h
  | p :: S, q :: U, h => by
    rw [List.flatMap_cons, List.flatMap_cons] at h
    have h0 := h
    rw [ndp_kids p, ndp_kids q] at h0
    have e : p = q := (List.cons.inj h0).1
    subst e
    rw [flat_inj (List.append_cancel_left h)]
def wvS (g : Nat → Nat → Tm) (a : Nat) (p : Tm × Nat) : Tm := wv g (a + p.2) p.1
theorem wvS_kids (g : Nat → Nat → Tm) (a : Nat) (p : Tm × Nat) (h : ∀ n, p.1 ≠ .var n) : WK p.1 ((kidsT p.1 p.2).map (wvS g a)) (wvS g a p) := by
  obtain ⟨t, b⟩ := p
  cases t with
  | var n => exact absurd rfl (h n)
  | leaf l => exact .leaf l
  | bind p x k b => exact .bind ..
  | app f x => exact .app ..
  | letE x k v b => exact .letE ..
theorem DxA.split {H : Hp} : ∀ {vs : List V} {ds es : List PyData}, DxA H vs (ds ++ es) → ∃ us ws, vs = us ++ ws ∧ DxA H us ds ∧ DxA H ws es
  | vs, [], es, h => ⟨[], vs, rfl, .nil, h⟩
  | _, d :: ds, es, .cons a b => by
    obtain ⟨us, ws, rfl, h1, h2⟩ := DxA.split b
    exact ⟨_ :: us, ws, rfl, .cons a h1, h2⟩
section
variable {P : Program} {w : World} {K : PySem.W.Frag} {mg : Str → Option Value} {base : Heap} {T : Tbl} {fw fd fr : Addr} {fwd fdd frd : FuncData}
theorem ok_wv {k : Nat} (F : Fun K "with_variables" "with_variables" sWv fw fwd) (CW : Cal K mg "with_variables" fw fwd ["term", "start", "change"]) (GN : FnOk P w K mg base CX0 2 fd fdd ["term"] (spF T rNodes)) (CN : Cal K mg "nodes" fd fdd ["term"])
    (GR : FnOk P w K mg base CX0 2 fr frd ["node", "done"] (spReb T)) (CR : Cal K mg "rebuilt" fr frd ["node", "done"]) (mr : mg "reversed" = none) : ∀ n, WvOk P w K mg base T fw n k := fun n => by
  intro A outer s H us vs Q E hr e0 r ⟨t, a, f, g, v, e, hv, hn, hcnt, hT, hC, q⟩
  subst e
  have hn1 : 1 ≤ n := by have := dep_pos t; omega
  have hr' : Room (n + k + 1 + 1) A := hr
  refine run_Z F scWv CW.b hr' e0 r rfl fun cdv hr2 => ?_
  have hr1 : Room 2 (A.deeper (envOfC "with_variables" (defScope sWv) s.heap.objs.size fw cdv)) := hr2.mono (by omega)
  have hrk : Room k (A.deeper (envOfC "with_variables" (defScope sWv) s.heap.objs.size fw cdv)) := hr2.mono (by omega)
  refine ⟨_, pss_cons (ps_set (i := 3) scWv.nd rfl (.inl rfl) (pe_lst pa_nil))
    (pss_cons (ps_for PassesOwn.never rfl (RT.pi_revA rfl mr (pe_call GN hr1 rfl CN.m CN.kp CN.b .nil pass0 (pa_cons (pv 0) pa_nil))) (pg_tup (by rfl) (pgs_cons (pg_name (i := 4) scWv.nd rfl (.inl rfl)) (pgs_cons (pg_name (i := 5) scWv.nd rfl (.inl rfl)) pgs_nil)))
      (pss_one (ps_if (pt_cmpR op_ne (pxt 4) pe_str (nomark _))
        (pss_one (ps_expr (pe_bm PySem.F.plainAttrs_list PySem.F.slot_list_append PySem.F.type_list_append mt_append (pv 3) (pa_cons (pe_call GR hr1 rfl CR.m CR.kp CR.b .nil pass0 (pa_cons (pv 4) (pa_cons (pv 3) pa_nil))) pa_nil))))
        (pss_one (ps_if (pt_cmpR op_ge (pxt 4) (pe_op op_add (pv 1) (pv 5)) (nomark _))
          (pss_one (ps_expr (pe_bm PySem.F.plainAttrs_list PySem.F.slot_list_append PySem.F.type_list_append mt_append (pv 3) (pa_cons
            (pe_chg (T := T) (k := k) (f := f) (g := g) (H0 := H) (i := 2) (fun pins σ H1 s1 I gr => (hC.later I gr).2) hrk rfl (.inl rfl) (pa_cons (pxt 4) (pa_cons (pe_op op_add (pv 1) (pv 5)) pa_nil))) pa_nil))))
          (pss_one (ps_expr (pe_bm PySem.F.plainAttrs_list PySem.F.slot_list_append PySem.F.type_list_append mt_append (pv 3) (pa_cons (pv 4) pa_nil)))))))))
    (pss_one (ps_ret (pe_ix ix_list (pv 3) pe_int (fun _ _ => rfl))))), ?_⟩
  -- done = []
  refine ⟨szl (by decide), fun ld hld => ?_⟩
  have g1 : Gr T H (upd H ld (.lst [])) := Gr.new hld
  -- for node, around in reversed(nodes(term))
  refine ed_call (T := T) (dd := []) (ds := [enc t]) (g1.2 hT) (eda_cons (ed_var rfl (g1.dx hv)) eda_nil) (fun _ => .nil) ⟨t, rfl, hcnt, rfl⟩ _ (Gr.refl _) _ fun vn H2 g2 hvn => ?_
  cases hvn with
  | @lst pn ns _ hpn hns =>
  have hnl : ns.length = cnt t := by rw [hns.length, List.length_map, nd_len]
  have hld2 : H2 ld = some (.lst []) := g2.lsts upd_same
  have nln : pn ≠ ld := fun e => by
    rw [e, hld2] at hpn
    cases hpn
    have := cnt_pos t
    rw [List.length_nil] at hnl
    omega
  refine ⟨pn, ns, rfl, .inl ⟨SqL.of hpn, RT.for_Itv (K := K) (a := pn) (xs := ns) (fun i σ' H' => (∃ c d, σ' = [some v, some (.int a), some (.ref f), some (.ref ld), c, d]) ∧ Gr T H H' ∧ H' pn = some (.lst ns) ∧ DxA H' ns ((nd t 0).map encP) ∧
    ∃ (S : List (Tm × Nat)) (ws : List V), (nd t 0).drop (ns.length - i) = S.flatMap ndp ∧ H' ld = some (.lst ws) ∧ DxA H' ws ((S.map (wvS g a)).reverse.map enc)) ⟨⟨_, _, rfl⟩, g1.trans g2, hpn, hns, [], [], by rw [Nat.sub_zero, hnl, ← nd_len t 0, List.drop_length]; rfl, hld2, .nil⟩ (fun i σ' H' h => SqL.of h.2.2.1) ?_ ?_⟩⟩
  · rintro i x σ' H' hi hx ⟨⟨c, d, rfl⟩, gr, hpn', hns', S, ws, hS, hws, hdw⟩
    obtain ⟨p, hp⟩ : ∃ p, (nd t 0)[ns.length - 1 - i]? = some p := ⟨_, List.getElem?_eq_getElem (by rw [nd_len]; omega)⟩
    obtain ⟨x', hx', hdx⟩ := hns'.get (i := ns.length - 1 - i) (d := encP p) (by rw [List.getElem?_map, hp]; rfl)
    rw [hx] at hx'
    cases hx'
    have hdrop : (nd t 0).drop (ns.length - (i + 1)) = p :: (nd t 0).drop (ns.length - i) := by
      have hl : ns.length - 1 - i < (nd t 0).length := by rw [nd_len]; omega
      rw [show ns.length - (i + 1) = ns.length - 1 - i by omega, List.drop_eq_getElem_cons hl, show ns.length - 1 - i + 1 = ns.length - i by omega]
      congr 1
      exact Option.some.inj ((List.getElem?_eq_getElem hl).symm.trans hp)
    obtain ⟨S1, hS1⟩ := suf t 0 (ns.length - (i + 1))
    rw [hdrop] at hS1
    cases S1 with
    | nil => cases hS1
    | cons p1 S1 =>
    rw [List.flatMap_cons, ndp_kids] at hS1
    obtain ⟨e1, e2⟩ := List.cons.inj hS1
    subst e1
    have eS : S = kidsT p.1 p.2 ++ S1 := flat_inj (by rw [← hS, e2, List.flatMap_append]; rfl)
    obtain ⟨y, b⟩ := p
    have hnew : (nd t 0).drop (ns.length - (i + 1)) = ((y, b) :: S1).flatMap ndp := by rw [hdrop, hS, eS, List.flatMap_cons, ndp_kids, List.flatMap_append]; rfl
    have hSl : S1.length < 60000 := by
      have h1 : ((y, b) :: S1).length ≤ (((y, b) :: S1).flatMap ndp).length := S_len
      rw [← hnew, List.length_drop, nd_len] at h1
      rw [List.length_cons] at h1
      omega
    cases hdx with
    | @tup px zs _ hpx hzs =>
    obtain ⟨u1, u2, rfl, hu1, hu2⟩ := dxA2 hzs
    cases hu2
    refine ⟨px, _, rfl, SqT.of hpx, rfl, _, _, rfl, _, _, rfl, rfl, ?_⟩
    have nH : H ld = none := hld
    -- what is appended
    have fin : ∀ {H3 : Hp} {ws3 : List V} {v3 : V}, Ml T ld H' H3 → H3 ld = some (.lst ws3) → DxA H3 ws3 ((S1.map (wvS g a)).reverse.map enc) → Dx H3 v3 (enc (wvS g a (y, b))) → ∃ ws4, (upd H3 ld (.lst (ws3 ++ [v3]))) ld = some (.lst ws4) ∧ DxA (upd H3 ld (.lst (ws3 ++ [v3]))) ws4 ((((y, b) :: S1).map (wvS g a)).reverse.map enc) := fun {H3 ws3 v3} m h1 h2 h3 => by
      have st := stt_mut (o := .lst (ws3 ++ [v3])) h1
      refine ⟨_, upd_same, ?_⟩
      rw [List.map_cons, List.reverse_cons, List.map_append]
      exact (DxA.stt st _ _ (nlA_all fun x hx => by obtain ⟨p, _, rfl⟩ := List.mem_map.mp hx; exact nl_enc _) h2).append (.cons (Dx.stt st _ _ (nl_enc _) h3) .nil)
    have done : ∀ {H3 : Hp} {ws3 : List V} {v3 : V}, Ml T ld H' H3 → H3 ld = some (.lst ws3) → DxA H3 ws3 ((S1.map (wvS g a)).reverse.map enc) → Dx H3 v3 (enc (wvS g a (y, b))) →
        (∃ c d, [some v, some (.int a), some (.ref f), some (.ref ld), some u1, some (V.int b)] = [some v, some (.int a), some (.ref f), some (.ref ld), c, d]) ∧ Gr T H (upd H3 ld (.lst (ws3 ++ [v3]))) ∧ (upd H3 ld (.lst (ws3 ++ [v3]))) pn = some (.lst ns) ∧ DxA (upd H3 ld (.lst (ws3 ++ [v3]))) ns ((nd t 0).map encP) ∧
        ∃ (S : List (Tm × Nat)) (ws : List V), (nd t 0).drop (ns.length - (i + 1)) = S.flatMap ndp ∧ (upd H3 ld (.lst (ws3 ++ [v3]))) ld = some (.lst ws) ∧ DxA (upd H3 ld (.lst (ws3 ++ [v3]))) ws ((S.map (wvS g a)).reverse.map enc) := fun {H3 ws3 v3} m h1 h2 h3 => by
      obtain ⟨ws4, a1, a2⟩ := fin m h1 h2 h3
      have m2 : Ml T ld H' (upd H3 ld (.lst (ws3 ++ [v3]))) := m.trans (Ml.set h1)
      exact ⟨⟨_, _, rfl⟩, Ml.gr gr nH m2, m2.lsts nln hpn', DxA.stt (m2.stt hws) _ _ (nlA_encP _) hns', _, ws4, hnew, a1, a2⟩
    obtain ⟨ry, ery⟩ := enc_hd y
    have hu1' := hu1
    rw [ery] at hu1'
    refine (et_test (T := T) (ed_neS (a := wd y) (b := "var") (ed_x rfl hu1' (atI_nat (j := 0) rfl)) ed_str)) H' (Gr.refl _) _ fun H3 g3 => ?_
    have hws3 := g3.lsts hws
    have hdw3 := g3.dxA hdw
    refine ite2 (fun hc => ?_) (fun hc => ?_)
    · have hnv : ∀ m, y ≠ .var m := fun m e => by rw [e] at hc; exact absurd hc (by rw [show wd (.var m) = ("var" : Str) from rfl]; decide)
      -- done.append(rebuilt(node, done))
      rw [eS, List.map_append, List.reverse_append, List.map_append] at hdw3
      obtain ⟨ws1, ws2, rfl, d1, d2⟩ := DxA.split hdw3
      refine ⟨_, rfl, .inl ⟨rfl, _, SqL.of hws3⟩, ?_⟩
      refine ⟨u1, rfl, _, rfl, ⟨y, wvS g a (y, b), u1, ld, ws1, ws2, (kidsT y b).map (wvS g a), rfl, (gr.trans g3).2 hT, g3.dx hu1, hnv, hws3, d2, wvS_kids g a (y, b) hnv, fun v' H4 m e1 hv' => ?_⟩⟩
      have d1' : DxA H4 ws1 ((S1.map (wvS g a)).reverse.map enc) := DxA.stt (m.stt hws3) _ _ (nlA_all fun x hx => by obtain ⟨p, _, rfl⟩ := List.mem_map.mp hx; exact nl_enc _) d1
      exact ⟨ld, ws1, v', rfl, rfl, e1, lszl (by rw [d1.length, List.length_map, List.length_reverse, List.length_map]; omega), done ((Gr.ml g3).trans m) e1 d1' hv'⟩
    have hyv : wd y = "var" := by simpa using hc
    obtain ⟨m, rfl⟩ := wd_var hyv
    have eS' : S = S1 := eS
    rw [eS'] at hdw3
    have hwl : ws.length < 100000 := by rw [hdw3.length, List.length_map, List.length_reverse, List.length_map]; omega
    refine (et_test (T := T) (ed_ge (i := (m : Int)) (j := (a : Int) + b) (ed_x rfl (g3.dx hu1) rfl) (ed_add (ed_var rfl (.int _)) (ed_var rfl (.int _))))) H3 (Gr.refl _) _ fun H4 g4 => ?_
    have g34 := g3.trans g4
    refine ite2 (fun hc2 => ?_) (fun hc2 => ?_)
    · have ham : a + b ≤ m := by have := of_decide_eq_true hc2; omega
      refine ⟨_, rfl, .inl ⟨rfl, _, SqL.of (g4.lsts hws3)⟩, ?_⟩
      refine ⟨rfl, gr.trans g34, ?_⟩
      refine (ed_x (T := T) (K := K) (σ := [some v, some (.int a), some (.ref f), some (.ref ld), some u1, some (V.int b)]) (i := 4) (c := 1) (d := .int m) rfl (g34.dx hu1) rfl) H4 (Gr.refl H4) _ fun w3 H5 g5 hw3 => ?_
      cases hw3
      refine ⟨_, rfl, _, rfl, _, _, rfl, rfl, ?_⟩
      refine ⟨m, a + b, by rw [Int.natCast_add], ham, gr.trans (g34.trans g5), ((gr.trans g34).trans g5).2 hT, fun v4 H6 g6 hv4 => ?_⟩
      have g36 := (g4.trans g5).trans g6
      refine ⟨ld, ws, v4, rfl, rfl, g36.lsts hws3, lszl hwl, done (Gr.ml (g3.trans g36)) (g36.lsts hws3) (g36.dxA hdw3) ?_⟩
      show Dx H6 v4 (enc (if a + b ≤ m then g m (a + b) else .var m))
      rw [if_pos ham]
      exact hv4
    · have ham : ¬ a + b ≤ m := fun z => hc2 (decide_eq_true (by omega))
      refine ⟨_, rfl, .inl ⟨rfl, _, SqL.of (g4.lsts hws3)⟩, ?_⟩
      refine ⟨u1, rfl, ld, ws, u1, rfl, rfl, g4.lsts hws3, lszl hwl, done (Gr.ml g34) (g4.lsts hws3) (g4.dxA hdw3) ?_⟩
      show Dx H4 u1 (enc (if a + b ≤ m then g m (a + b) else .var m))
      rw [if_neg ham]
      exact g34.dx hu1
  · rintro σ' H' ⟨⟨c, d, rfl⟩, gr, _, _, S, ws, hS, hws, hdw⟩
    rw [Nat.sub_self, List.drop_zero] at hS
    have eS : S = [(t, 0)] := flat_inj (by rw [← hS]; simp)
    subst eS
    exact (ed_ixL (T := T) (i := 0) (d := enc (wv g a t)) (ed_var rfl (.lst hws hdw)) ed_int rfl) H' (Gr.refl _) _ fun v6 H6 g6 hv6 => q v6 H6 (gr.trans g6) hv6
end
end K1
namespace K1
open PySem PySem.Spec PyProof.Rows L2
/-! ### captured cells, as long as they stay -/
theorem cells_keep {cl : List (Str × Addr)} {fr : List Str} {ws : List (Option V)} {h h' : Heap} {H H' : Hp} (C : NdefX.CellsAt cl fr ws h H) (k : ∀ p ∈ cl, H' p.2 = none ∧ ∀ o, h.get? p.2 = some o → h'.get? p.2 = some o) : NdefX.CellsAt cl fr ws h' H' := by
  have kc : ∀ y c, cl.lookup y = some c → ∀ v, h.IsCell c v → h'.IsCell c v := fun y c e v ⟨o, ho, hd⟩ => ⟨o, (k (y, c) (PySem.mem_of_lookup e)).2 o ho, hd⟩
  refine ⟨C.len, fun y c e => ⟨(k (y, c) (PySem.mem_of_lookup e)).1, ?_⟩, C.inj, fun i y e => ?_⟩
  · obtain ⟨_, v, z⟩ := C.all y c e
    exact ⟨v, kc y c e v z⟩
  · obtain ⟨c, hc, hv⟩ := C.has i y e
    refine ⟨c, hc, fun v ev => ?_⟩
    obtain ⟨u, r, z⟩ := hv v ev
    exact ⟨u, r, kc y c hc _ z⟩
section
variable {X : Cx} {pins : List (Addr × Obj)} {σ : L2.St} {H : Hp} {s : Shared}
/-- a cell of the frame is no frame -/
theorem cell_nofr (I : Inv X pins σ H s) (hfn : ∀ x, X.fn x = true) {x : Str} {c : Addr} (e : X.env.cells.lookup x = some c) : c ∉ frs X.stack := fun z => by
  rcases List.mem_cons.mp (I.stkSub c z) with e1 | e1
  · exact I.cne x c e e1
  · obtain ⟨_, o, ho, _⟩ := I.ok.funs.mem e1
    exact Nat.lt_irrefl _ (Nat.lt_of_lt_of_le (Heap.lt_size ho) (I.ok.cab x c (hfn x) e))
end
section
variable {X : Cx} {T : Tbl} {pins : List (Addr × Obj)} {σ : L2.St} {H : Hp} {s : Shared}
/-- the words of a lambda as a function -/
abbrev lamF (X : Cx) (params : Arguments) (scope : Scope) (c' : Addr) : NdefX.NF := ⟨"<lambda>", X.env.qual ++ "<lambda>", params, [], scope, cloFrom X.env.cells scope.names [], c'⟩
theorem chg_lam {k : Nat} {f c' : Addr} {pm ctv : Value} {params : Arguments} {body : Expr} {scope : Scope} {N ps fr : List Str} {js : List Nat} {g : Nat → Nat → Tm} (I : Inv X pins σ H s) (hX : ∀ x, X.fn x = true) (S : NdefX.NScope N ps fr scope) (hl : ps.length = 2)
    (hfree : ∀ y ∈ scope.names, y.2 = .free → X.env.scope.names.lookup y.1 = some .cell ∨ X.env.scope.names.lookup y.1 = some .free) (hfr : ∀ y ∈ fr, (y, NameKind.free) ∈ scope.names) (hjs : js.map (fun j => X.N[j]?) = fr.map some)
    (hf : s.heap.get? f = some (PySem.W.kla_obj "<lambda>" (X.env.qual ++ "<lambda>") params body scope (cloFrom X.env.cells scope.names []) pm c' ctv)) (hfn : H f = none) (hfs : f ∉ frs X.stack) (hc : H c' = some (LamX.CodeO c' (X.env.qual ++ "<lambda>")))
    (hbind : ∀ us : List Value, us.length = 2 → bindArgs (PySem.W.kla_fn "<lambda>" (X.env.qual ++ "<lambda>") params body scope (cloFrom X.env.cells scope.names []) pm (.ref c') ctv) ⟨us, []⟩ = pure (ps.zip us))
    (hbody : ∀ (A : Around) (outer : List Env) (s1 : Shared) (H1 : Hp) (E : XK) (n d : Nat), d ≤ n → Gr T H H1 → Tb T H1 → Room k (A.deeper (NdefX.envF (lamF X params scope c') f s1.heap.objs.size)) →
      ∃ t, PE (NdefX.ncx CX0 X.prog X.w X.K X.mg X.base N (lamF X params scope c') f A outer s1 H1 E) body t ∧ ∀ Q : VK, (∀ v H2, Gr T H1 H2 → Dx H2 v (enc (g n d)) → Q v H2) → t (NdefX.startF N [.int n, .int d] (js.map (NdefX.slotAt σ))) H1 Q) :
    Chg X.prog X.w X.K X.mg X.base T (k + 1) f g X.stack H s := by
  have cp := NdefX.Caps.made I.ok hfree hfr hjs
  have C := NdefX.cells_of I cp
  have hfree' : ∀ y ∈ scope.names, y.2 = .free → ∃ c, X.env.cells.lookup y.1 = some c := fun y hy e => (hfree y hy e).elim (fun z => I.ok.has _ (.inl z)) fun z => I.ok.has _ (.inr z)
  have memc : ∀ p ∈ cloFrom X.env.cells scope.names [], X.env.cells.lookup p.1 = some p.2 := fun p hp => by
    obtain ⟨y, c⟩ := p
    rcases cloFrom_mem hp with hm | ⟨h1, h2⟩
    · cases hm
    · obtain ⟨c1, hc1⟩ := hfree' _ h1 rfl
      have hc1 : X.env.cells.lookup y = some c1 := hc1
      have e2 : c = c1 := by
        rw [h2, hc1] <;> rfl
      rw [e2]
      exact hc1
  refine ⟨f :: (cloFrom X.env.cells scope.names []).map (·.2), fun b hb => ?_, fun H' s' hk gr hok => ?_⟩
  · rcases List.mem_cons.mp hb with e | hb
    · rw [e]
      exact ⟨hfn, ⟨_, hf⟩, hfs⟩
    · obtain ⟨p, hp, e⟩ := List.mem_map.mp hb
      rw [← e]
      obtain ⟨v, o, ho, _⟩ := I.cell _ _ (memc p hp)
      exact ⟨I.freeC _ _ (memc p hp), ⟨o, ho⟩, cell_nofr I hX (memc p hp)⟩
  have hf' := (hk f List.mem_cons_self).2 _ hf
  refine ⟨⟨_, _, _, _, hf'⟩, fun A outer us n d Q E hr e0 hT r hnd q => ?_⟩
  have hc' : H' c' = some (LamX.CodeO c' (X.env.qual ++ "<lambda>")) := gr.1 c' _ hc fun ps z => by unfold LamX.CodeO at z; cases z
  have C' : NdefX.CellsAt (cloFrom X.env.cells scope.names []) fr (js.map (NdefX.slotAt σ)) s'.heap H' := cells_keep C fun p hp => hk p.2 (List.mem_cons_of_mem _ (List.mem_map.mpr ⟨p, hp, rfl⟩))
  have hul : us.length = 2 := by rw [← r.length]; rfl
  have lim : s'.heap.NoLimit := e0.mod.nolimit.keeps fun b o e => (e0.bs b o e).1
  refine PySem.W.kla_callFunE hr.depth hf' rfl S.co S.gen rfl (NdefX.codeO_at hok hc') ?_
  rw [hbind us hul]
  refine wpAny_pure (wpAny_newFunctionEnv S.nocell (fun ⟨n, _⟩ hy => S.par n (List.of_mem_zip hy).1) (fun h₁ hns hsb => ⟨lim.fresh _ hsb, ?_⟩) S.kind)
  show codeAny _ _ (.expr body (NdefX.envF (lamF X params scope c') f s'.heap.objs.size)) _ _
  have kp : ∀ b o, s'.heap.get? b = some o → h₁.get? b = some o := fun b o e => hsb.extBut b o (Nat.ne_of_lt (Heap.lt_size e)) (Heap.get?_push_of_some _ e)
  obtain ⟨t, ht, hq⟩ := hbody A outer s' H' E n d hnd gr hT (hr.deeper _)
  have J : Inv (NdefX.ncx CX0 X.prog X.w X.K X.mg X.base N (lamF X params scope c') f A outer s' H' E) [] (NdefX.startF N [.int n, .int d] (js.map (NdefX.slotAt σ))) H' { s' with heap := h₁, toks := s'.toks + (ps.zip us).length } :=
    NdefX.inv_startN (F := lamF X params scope c') S hr.hd e0 (by rw [hl]; rfl) r C' hns kp
  refine PySem.W.kla_codeExpr (wpAny_mono (ht.run [] _ _ H' Q J (hq Q q)) (fun v s'' hq => ?_) fun e s'' hq => hq)
  obtain ⟨w', H'', J', rv, q⟩ := hq
  exact ⟨w', H'', J'.os, J'.bare, J'.base, J'.hok, rv, q⟩
/-- with_variables(a, b, lambda ..) -/
def tWvLam (T : Tbl) (n : Nat) (js : List Nat) (ta tb : TE) (G : List (Option V) → (Nat → Nat → Tm) → Prop) : TE := fun σ H Q => ta σ H fun x H1 => tb σ H1 fun y H2 => Tb T H2 ∧ ∃ (t : Tm) (a : Nat) (g : Nat → Nat → Tm), Dx H2 x (enc t) ∧ y = .int a ∧ dep t ≤ n ∧ cnt t ≤ 50000 ∧ G (js.map (NdefX.slotAt σ)) g ∧
  ∀ v' H', Gr T H2 H' → Dx H' v' (enc (wv g a t)) → Q v' H'
theorem pe_wvlam {n k : Nat} {fw c : Addr} {params : Arguments} {body : Expr} {scope : Scope} {a b : Expr} {ta tb : TE} {N ps fr : List Str} {js : List Nat} {p lpos pos : Pos} {G : List (Option V) → (Nat → Nat → Tm) → Prop}
    (W : WvOk X.prog X.w X.K X.mg X.base T fw n (k + 1)) (hr : Room (n + (k + 1) + 2) X.A) (hg : Gl X "with_variables") (hm : X.mg "with_variables" = some (.ref fw)) (hk : PySem.W.keepIn X.K (.ref fw) = true) (hX : ∀ x, X.fn x = true)
    (TB : LamX.TabB X.base X.mg c T.aL) (hcode : X.env.code = .ref c) (hqual : X.env.qual ++ "<lambda>" = qL) (hdef : defaultsOf params X.env = ([], [])) (S : NdefX.NScope N ps fr scope) (hl : ps.length = 2)
    (hfree : ∀ y ∈ scope.names, y.2 = .free → X.env.scope.names.lookup y.1 = some .cell ∨ X.env.scope.names.lookup y.1 = some .free) (hfr : ∀ y ∈ fr, (y, NameKind.free) ∈ scope.names) (hjs : js.map (fun j => X.N[j]?) = fr.map some)
    (hbind : ∀ (q : Str) (cl : List (Str × Addr)) (pm cv ctv : Value) (us : List Value), us.length = 2 → bindArgs (PySem.W.kla_fn "<lambda>" q params body scope cl pm cv ctv) ⟨us, []⟩ = pure (ps.zip us))
    (hbody : ∀ (c' f : Addr) (ws : List (Option V)) (g : Nat → Nat → Tm), G ws g → ∀ (A : Around) (outer : List Env) (s1 : Shared) (H1 : Hp) (E : XK) (n d : Nat), d ≤ n → Tb T H1 → Room k (A.deeper (NdefX.envF (lamF X params scope c') f s1.heap.objs.size)) →
      ∃ t, PE (NdefX.ncx CX0 X.prog X.w X.K X.mg X.base N (lamF X params scope c') f A outer s1 H1 E) body t ∧ ∀ Q : VK, (∀ v H2, Gr T H1 H2 → Dx H2 v (enc (g n d)) → Q v H2) → t (NdefX.startF N [.int n, .int d] ws) H1 Q)
    (ha : PE X a ta) (hb : PE X b tb) 
    (h1 : starEach [a, b, .Lambda params body scope lpos] X.env = (false, eval a X.env) :: starEach [b, .Lambda params body scope lpos] X.env := by rfl)
    (h2 : starEach [b, .Lambda params body scope lpos] X.env = (false, eval b X.env) :: starEach [.Lambda params body scope lpos] X.env := by rfl)
    (hpl : (backTo pos (starEach [b, .Lambda params body scope lpos] X.env)).any (·.1) = false := by rfl) :
    PE X (.Call (.Name "with_variables" p) [a, b, .Lambda params body scope lpos] [] pos) (tWvLam T n js ta tb G) := by
  refine ⟨fun pins s σ H Q I h => ?_⟩
  refine wpAny_Call_Name_kw (ld_glob I hg hm ?_ (by decide))
  refine PySem.W.callWith_K (h₀ := X.base) I.ok.mod.kin hk ?_ h1 hpl
  rw [h1]
  show wpAny _ _ (spliced ((false, eval a X.env) :: backTo pos (starEach [b, .Lambda params body scope lpos] X.env))) _ _ s
  refine Calls.spliced_cons (thn (ha.run pins s σ H _ I h) fun ua s1 ⟨x, H1, I1, r1, q1⟩ => ?_)
  rw [h2]
  show wpAny _ _ (spliced ((false, eval b X.env) :: backTo pos (starEach [.Lambda params body scope lpos] X.env))) _ _ s1
  refine Calls.spliced_cons (thn (hb.run pins s1 σ H1 _ I1 q1) fun ub s2 ⟨y, H2, I2, r2, q2⟩ => ?_)
  obtain ⟨hT, t, a0, g, hx, ey, hd, hcn, hG, q⟩ := q2
  subst ey
  show wpAny _ _ (spliced ((false, eval (.Lambda params body scope lpos) X.env) :: backTo pos (starEach [] X.env))) _ _ s2
  have hfree' : ∀ y ∈ scope.names, y.2 = .free → ∃ c, X.env.cells.lookup y.1 = some c := fun y hy e => (hfree y hy e).elim (fun z => I2.ok.has _ (.inl z)) fun z => I2.ok.has _ (.inr z)
  refine Calls.spliced_cons (LamX.lam_make2 (T := T.list) I2 TB hcode (by rw [hqual]; exact List.mem_cons_self) (fun p hp e => ?_) hT hdef hfree' fun f c' pm' ctv H3 s3 I3 eN T3 hf hfn hfs hco => ?_)
  · rw [hqual]
    have nd := T.nd
    simp only [List.nodup_cons, List.mem_cons, List.not_mem_nil, or_false, not_or] at nd
    simp only [Tbl.list, List.mem_cons, List.not_mem_nil, or_false] at hp
    rcases hp with rfl | rfl | rfl | rfl
    · rfl
    · exact absurd e.symm nd.1.1
    · exact absurd e.symm nd.1.2.1
    · exact absurd e.symm nd.1.2.2
  have g23 : Gr T H2 H3 := ⟨eN, fun _ => T3⟩
  have Cg : Chg X.prog X.w X.K X.mg X.base T (k + 1) f g X.stack H3 s3 := chg_lam I3 hX S hl hfree hfr hjs hf hfn hfs hco (hbind _ _ _ _ _) fun A outer s1 H1 E n d h1 _ h3 h4 => hbody c' f _ g hG A outer s1 H1 E n d h1 h3 h4
  refine Calls.spliced_nil ⟨I3.kIn, ?_⟩
  refine wpAny_call (codeAny_mono (W X.A X.stack s3 H3 [ua, ub, .ref f] [x, .int a0, .ref f] Q E0 hr I3.env0 (.cons r1 (.cons r2 (.cons rfl .nil))) ⟨t, a0, f, g, x, rfl, g23.dx hx, hd, hcn, T3, Cg, fun v' H' g' hv' => q v' H' (g23.trans g') hv'⟩) fun r s' hq => ?_)
  cases r with
  | error e => exact (show False from hq).elim
  | ok fl =>
    cases fl with
    | ret u => exact I3.after hq
    | next => exact False.elim hq
    | brk => exact False.elim hq
    | cont => exact False.elim hq
end
/-! ### lifted -/
abbrev sLift : Stmt := topS 16
theorem scLift : FnScope ["term", "many", "start"] ["term", "many", "start"] (defScope sLift) := ⟨rfl, rfl, rfl, by decide +kernel, rfl, by decide +kernel, by decide +kernel⟩
def rLift (D : Nat) : List PyData → PyData → Prop := fun ds r => ∃ (t : Tm) (m s : Nat), ds = [enc t, .int m, .int s] ∧ dep t ≤ D ∧ cnt t ≤ 50000 ∧ r = enc (lf m s t)
section
variable {P : Program} {w : World} {K : PySem.W.Frag} {mg : Str → Option Value} {base : Heap} {T : Tbl} {f fw : Addr} {fd fwd : FuncData} {cdL : Addr}
theorem ok_lift {n : Nat} (F : FunC K "lifted" "lifted" sLift cdL f fd) (W : WvOk P w K mg base T fw n 1) (CW : Cal K mg "with_variables" fw fwd ["term", "start", "change"])
    (TB : LamX.TabB base mg cdL T.aL) : FnOk P w K mg base CX0 (n + 4) f fd ["term", "many", "start"] (spF T (rLift n)) := by
  refine mkFC F scLift (fun ds r ⟨d, m, s, e, _⟩ => by rw [e]; rfl) (fun A outer s H vs E ds r hr hR hd hT => ?_)
  obtain ⟨t, m, a, rfl, hn, hcn, rfl⟩ := hR
  obtain ⟨v0, v1, v2, rfl, hv, hv1, hv2⟩ := dxA3 hd
  cases hv1
  cases hv2
  refine ⟨_, pss_cons (ps_if (pt_cmpR op_eq (pv 1) pe_int (nomark _)) (pss_one (ps_ret (pv 0))) pss_nil)
    (pss_one (ps_ret (pe_wvlam (T := T) (n := n) (k := 0) (N := ["number", "depth", "many"]) (ps := ["number", "depth"]) (fr := ["many"]) (js := [1]) (G := fun ws g => ∃ m : Nat, ws = [some (.int m)] ∧ g = fun n _ => .var (n + m)) W hr rfl CW.m CW.kp (fun _ => rfl)
      TB rfl (show (("lifted" : Str) ++ ".<locals>.") ++ "<lambda>" = qL by decide +kernel) rfl (NdefX.nscope_by (by decide +kernel)) rfl (NdefX.ndef_free (sc := defScope sLift) (fr := ["many"]) (by decide +kernel)) (NdefX.ndef_fr (sc := defScope sLift) (by decide +kernel)) rfl
      (fun q cl pm cv ctv us hl => match us, hl with | [_, _], _ => rfl)
      (fun c' f ws g hG A outer s1 H1 E n d hnd hT hr => ?_) (pv 0) (pv 2)))), ?_⟩
  · obtain ⟨m, rfl, rfl⟩ := hG
    refine ⟨_, pe_tup (pa_cons pe_str (pa_cons (pe_op op_add (pv 0) (pv 2)) pa_nil)), fun Q q => ?_⟩
    have ed : ED T (tTup (tCons (tC (.str "var")) (tCons (tOp (rI0 fun i j => .int (i + j)) (tVar 0) (tVar 2)) tNil))) (NdefX.startF ["number", "depth", "many"] [.int n, .int d] [some (.int m)]) H1 (enc (.var (n + m))) := by
      refine ed_is (ed_tup (eda_cons ed_str (eda_cons (ed_add (i := n) (j := m) (ed_var rfl (.int _)) (ed_var rfl (.int _))) eda_nil))) ?_
      unfold enc
      rw [Int.natCast_add]
    exact ed H1 (Gr.refl H1) Q q
  refine rd_when (et_test (ed_eqI (ed_var rfl (.int _)) ed_int)) (fun hc H1 g1 => ?_) (fun hc H1 g1 => ?_)
  · have hm : m = 0 := by have := of_decide_eq_true hc; omega
    rw [hm, lf_zero]
    exact rd_ret (ed_var rfl (g1.dx hv))
  · intro D q
    exact ⟨v0, rfl, .int a, rfl, g1.2 hT, t, a, _, g1.dx hv, rfl, hn, hcn, ⟨m, rfl, rfl⟩, fun v' H' g' hv' => q v' H' g' hv'⟩
end
end K1
namespace K1
open PySem PySem.Spec PyProof.Rows L2
inductive SeqD : PyData → List PyData → Prop
  | tup (ds : List PyData) : SeqD (.tuple ds) ds
  | lst (ds : List PyData) : SeqD (.list ds) ds
section
variable {T : Tbl} {K : PySem.W.Frag} {σ : L2.St} {H H' : Hp} {ta tb te : TE} {d e r : PyData}
theorem ed_lenQ {ds : List PyData} (s : SeqD d ds) (h : ED T te σ H d) : ED T (tCB (fun xs H Q => ∃ p ys, xs = [.ref p] ∧ (SqL K H p ys ∨ SqT K H p ys) ∧ Q (.int ys.length) H) (tCons te tNil)) σ H (.int ds.length) := by
  cases s with
  | tup => exact ed_lenT h
  | lst => exact ed_lenL h
theorem ed_ixQ {ds : List PyData} {i : Int} (s : SeqD d ds) (h : ED T ta σ H d) (hb : ED T tb σ H (.int i)) (hi : atI ds i = some e) : ED T (tOp (rIx K) ta tb) σ H e := by
  cases s with
  | tup =>
    exact fun H1 g Q q => h H1 g _ fun v H2 g2 hv => hb H2 (g.trans g2) _ fun w H3 g3 hw => by
      cases hv with
      | tup h1 h2 =>
        cases hw
        obtain ⟨j, a1, a2⟩ := atI_len h2.length hi
        obtain ⟨x, b1, b2⟩ := h2.get a1
        exact .inr (.inl ⟨_, _, i, x, rfl, rfl, SqT.of (g3.tups h1), a2 x b1, q x H3 (g2.trans g3) (g3.dx b2)⟩)
  | lst =>
    exact fun H1 g Q q => h H1 g _ fun v H2 g2 hv => hb H2 (g.trans g2) _ fun w H3 g3 hw => by
      cases hv with
      | lst h1 h2 =>
        cases hw
        obtain ⟨j, a1, a2⟩ := atI_len h2.length hi
        obtain ⟨x, b1, b2⟩ := h2.get a1
        exact .inl ⟨_, _, i, x, rfl, rfl, SqL.of (g3.lsts h1), a2 x b1, q x H3 (g2.trans g3) (g3.dx b2)⟩
end
section
variable {X : Cx} {T : Tbl} {pins : List (Addr × Obj)} {σ : L2.St} {H : Hp} {s : Shared}
theorem chg_fn {k : Nat} {f : Addr} {F : NdefX.NF} {N ps fr : List Str} {js : List Nat} {g : Nat → Nat → Tm} (I : Inv X pins σ H s) (hX : ∀ x, X.fn x = true) (S : NdefX.NScope N ps fr F.scope) (hl : ps.length = 2) (hcl : F.cl = cloFrom X.env.cells F.scope.names [])
    (hfree : ∀ y ∈ F.scope.names, y.2 = .free → X.env.scope.names.lookup y.1 = some .cell ∨ X.env.scope.names.lookup y.1 = some .free) (hfr : ∀ y ∈ fr, (y, NameKind.free) ∈ F.scope.names) (hjs : js.map (fun j => X.N[j]?) = fr.map some)
    (hf : H f = some (NdefX.FnO f F)) (hc : H F.c = some (LamX.CodeO F.c F.qual))
    (hbind : ∀ (doc pm ctv : Value) (us : List Value), us.length = ps.length → bindArgs (F.fd doc pm ctv) ⟨us, []⟩ = pure (ps.zip us))
    (hbody : ∀ (A : Around) (outer : List Env) (s1 : Shared) (H1 : Hp) (E : XK) (n d : Nat), d ≤ n → Gr T H H1 → Tb T H1 → Room k (A.deeper (NdefX.envF F f s1.heap.objs.size)) →
      ∃ t, PSs (NdefX.ncx CX0 X.prog X.w X.K X.mg X.base N F f A outer s1 H1 E) F.body t ∧ RD T t (NdefX.startF N [.int n, .int d] (js.map (NdefX.slotAt σ))) H1 (enc (g n d))) :
    Chg X.prog X.w X.K X.mg X.base T (k + 1) f g X.stack H s := by
  have cp := NdefX.Caps.made I.ok hfree hfr hjs
  have C := NdefX.cells_of I cp
  have hfree' : ∀ y ∈ F.scope.names, y.2 = .free → ∃ c, X.env.cells.lookup y.1 = some c := fun y hy e => (hfree y hy e).elim (fun z => I.ok.has _ (.inl z)) fun z => I.ok.has _ (.inr z)
  have memc : ∀ p ∈ F.cl, X.env.cells.lookup p.1 = some p.2 := fun p hp => by
    rw [hcl] at hp
    obtain ⟨y, c⟩ := p
    rcases cloFrom_mem hp with hm | ⟨h1, h2⟩
    · cases hm
    · obtain ⟨c1, hc1⟩ := hfree' _ h1 rfl
      have hc1 : X.env.cells.lookup y = some c1 := hc1
      have e2 : c = c1 := by
        rw [h2, hc1] <;> rfl
      rw [e2]
      exact hc1
  rw [← hcl] at C
  refine ⟨F.cl.map (·.2), fun b hb => ?_, fun H' s' hk gr hok => ?_⟩
  · obtain ⟨p, hp, e⟩ := List.mem_map.mp hb
    rw [← e]
    obtain ⟨v, o, ho, _⟩ := I.cell _ _ (memc p hp)
    exact ⟨I.freeC _ _ (memc p hp), ⟨o, ho⟩, cell_nofr I hX (memc p hp)⟩
  have hf' : H' f = some (NdefX.FnO f F) := gr.1 f _ hf fun ps z => NdefX.fnO_ne ps z
  have hc' : H' F.c = some (LamX.CodeO F.c F.qual) := gr.1 _ _ hc fun ps z => by unfold LamX.CodeO at z; cases z
  have C' : NdefX.CellsAt F.cl fr (js.map (NdefX.slotAt σ)) s'.heap H' := cells_keep C fun p hp => hk p.2 (List.mem_map.mpr ⟨p, hp, rfl⟩)
  obtain ⟨od, sl, doc, pm, ctv, ho⟩ := NdefX.fnO_at hok hf'
  refine ⟨⟨_, _, _, _, ho⟩, fun A outer us n d Q E hr e0 hT r hnd q => ?_⟩
  have NO : NdefX.NOk X.prog X.w X.K X.mg X.base CX0 (k + 1) f F ps fr (fun ws vs H1 Q _ => ws = js.map (NdefX.slotAt σ) ∧ Gr T H H1 ∧ Tb T H1 ∧ ∃ n d : Nat, vs = [.int n, .int d] ∧ d ≤ n ∧ ∀ v H2, Gr T H1 H2 → Dx H2 v (enc (g n d)) → Q v H2) := by
    refine NdefX.nok_of S hbind (fun ws vs H1 Q E ⟨_, _, _, n, d, e, _⟩ => by rw [e, hl]; rfl) (fun A outer s1 H1 vs ws Q E hr _ _ _ ⟨e1, g1, t1, n, d, e2, hnd, q⟩ => ?_)
    subst e1
    subst e2
    obtain ⟨t, ht, hd⟩ := hbody A outer s1 H1 E n d hnd g1 t1 hr
    exact ⟨t, ht, hd _ q⟩
  exact NO.run A outer s' H' us [.int n, .int d] (js.map (NdefX.slotAt σ)) Q E hr e0 hf' hc' C' r ⟨rfl, gr, hT, n, d, rfl, hnd, q⟩
end
/-! ### put_in_from -/
abbrev sPif : Stmt := topS 19
theorem scPif : FnScope ["term", "values", "start", "change", "many"] ["term", "values", "start"] (defScope sPif) := ⟨rfl, rfl, rfl, by decide +kernel, rfl, by decide +kernel, by decide +kernel⟩
def sChange : Stmt := (defBody sPif).getD 1 (.Pass ⟨0, 0, 0, 0⟩)
theorem nsChange : NdefX.NScope ["number", "depth", "many", "values"] ["number", "depth"] ["many", "values"] (defScope sChange) := NdefX.nscope_by (by decide +kernel)
theorem nfChange : ∀ y ∈ (defScope sChange).names, y.2 = .free → (defScope sPif).names.lookup y.1 = some .cell ∨ (defScope sPif).names.lookup y.1 = some .free := NdefX.ndef_free (fr := ["many", "values"]) (by decide +kernel)
theorem nrChange : ∀ y ∈ (["many", "values"] : List Str), (y, NameKind.free) ∈ (defScope sChange).names := NdefX.ndef_fr (sc := defScope sPif) (by decide +kernel)
def Tbl.listN (T : Tbl) : List NdefX.NTab := T.list.map fun p => (p.1, fun _ _ => p.2)
theorem tabsN_of {T : Tbl} {H : Hp} (h : Tb T H) : NdefX.TabsN T.listN H := fun p hp => by
  obtain ⟨q, hq, rfl⟩ := List.mem_map.mp hp
  exact h q hq
theorem of_tabsN {T : Tbl} {H : Hp} (h : NdefX.TabsN T.listN H) : Tb T H := fun p hp => h _ (List.mem_map.mpr ⟨p, hp, rfl⟩)
def rPif (D : Nat) : List PyData → PyData → Prop := fun ds r => ∃ (t : Tm) (vals : List Tm) (vd : PyData) (s : Nat), ds = [enc t, vd, .int s] ∧ SeqD vd (vals.map enc) ∧ dep t ≤ D ∧ cnt t ≤ 50000 ∧ (∀ v ∈ vals, dep v ≤ D ∧ cnt v ≤ 50000) ∧ r = enc (pf vals s t)
section
variable {P : Program} {w : World} {K : PySem.W.Frag} {mg : Str → Option Value} {base : Heap} {T : Tbl} {f fw fl fq : Addr} {fd fwd fld fqd : FuncData} {cdP : Addr} {vds : List Value}
theorem ok_pif {n : Nat} (F : FunC K "put_in_from" "put_in_from" sPif cdP f fd) (W : WvOk P w K mg base T fw n (n + 5)) (CW : Cal K mg "with_variables" fw fwd ["term", "start", "change"]) (GL : FnOk P w K mg base CX0 (n + 4) fl fld ["term", "many", "start"] (spF T (rLift n)))
    (CL : CalD K mg "lifted" fl fld ["term", "many", "start"] [.int 0] vds) (TB : LamX.TabB base mg cdP T.aP) (ml : mg "len" = none) : FnOk P w K mg base CX0 (n + n + 8) f fd ["term", "values", "start"] (spF T (rPif n)) := by
  refine mkFC F scPif (fun ds r ⟨d, m, s, _, e, _⟩ => by rw [e]; rfl) (fun A outer s H vs E ds r hr hR hd hT => ?_)
  obtain ⟨t, vals, vd, a, rfl, hsq, hn, hcn, hvn, rfl⟩ := hR
  obtain ⟨v0, v1, v2, rfl, hv, hv1, hv2⟩ := dxA3 hd
  cases hv2
  have hrW : Room (n + (n + 5) + 2) (A.deeper (envOfC "put_in_from" (defScope sPif) s.heap.objs.size f (.ref cdP))) := hr.mono (by omega)
  refine ⟨_, pss_cons (ps_set (i := 4) scPif.nd rfl (.inr rfl) (pe_callB call_len_seq rfl ml PySem.boot_len (pa_cons (pv 1) pa_nil)))
    (pss_cons (NdefX.ps_ndef (T := T.listN) (nm := fun _ _ => qP) (c := cdP) (P := T.aP) (i := 3) TB rfl ?_ (show qP = (("put_in_from" : Str) ++ ".<locals>.") ++ "change" by decide +kernel) ?_ nfChange rfl rfl rfl scPif.nd rfl (.inl rfl) (.inl rfl))
    (pss_one (ps_ret (pe_wv (T := T) (n := n) (k := n + 5) W hrW rfl CW.m CW.kp (pa_cons (pv 0) (pa_cons (pv 2) (pa_cons (pv 3) pa_nil)))))))  , ?_⟩
  · exact List.mem_map.mpr ⟨(T.aP, qP), by simp [Tbl.list], rfl⟩
  · intro p hp e
    obtain ⟨q, hq, rfl⟩ := List.mem_map.mp hp
    have nd := T.nd
    simp only [List.nodup_cons, List.mem_cons, List.not_mem_nil, or_false, not_or] at nd
    simp only [Tbl.list, List.mem_cons, List.not_mem_nil, or_false] at hq
    rcases hq with rfl | rfl | rfl | rfl
    · exact absurd e nd.1.1
    · rfl
    · exact absurd e.symm nd.2.1.1
    · exact absurd e.symm nd.2.1.2
  refine rd_asg (d := .int vals.length) (ed_is (ed_lenQ hsq (ed_var rfl hv1)) (by rw [List.length_map])) fun v4 H1 g1 hv4 => ?_
  cases hv4
  intro D q
  refine ⟨tabsN_of (g1.2 hT), fun fc c' H2 eN T2 hf0 hf1 hc1 => ?_⟩
  have g2 : Gr T H1 H2 := ⟨eN, fun _ => of_tabsN T2⟩
  have g12 := g1.trans g2
  refine ⟨v0, rfl, .int a, rfl, .ref fc, rfl, fun pins s2 I => ?_⟩
  refine ⟨t, a, fc, pg vals, v0, rfl, g12.dx hv, hn, hcn, g12.2 hT, ?_, fun v' H' g' hv' => q v' H' (g2.trans g') hv'⟩
  refine chg_fn (k := n + 4) (N := ["number", "depth", "many", "values"]) (ps := ["number", "depth"]) (fr := ["many", "values"]) (js := [4, 1]) I (fun _ => rfl) nsChange rfl rfl nfChange nrChange rfl hf1 hc1
    (fun doc pm ctv us hl => match us, hl with | [_, _], _ => rfl) (fun A1 outer1 s3 H3 E3 m d hnd g3 t3 hr3 => ?_)
  have hv3 := (g12.trans g3).dx hv1
  refine ⟨_, pss_cons (ps_if (pt_cmpR op_lt (pe_op op_sub (pv 0) (pv 1)) (pv 2) (nomark _)) (pss_one (ps_ret (pe_call GL hr3 rfl CL.m CL.kp CL.b CL.v pass0
      (pa_cons (pe_ix ix_seq (pv 3) (pe_op op_sub (pe_op op_sub (pv 2) pe_int) (pe_op op_sub (pv 0) (pv 1))) (fun _ _ => rfl)) (pa_cons (pv 1) pa_nil))))) pss_nil)
    (pss_one (ps_ret (pe_tup (pa_cons pe_str (pa_cons (pe_op op_sub (pv 0) (pv 2)) pa_nil))))), ?_⟩
  refine rd_when (et_test (ed_lt (ed_sub (i := m) (j := d) (ed_var rfl (.int _)) (ed_var rfl (.int _))) (ed_var (d := .int vals.length) rfl (.int _)))) (fun hc4 H4 g4 => ?_) (fun hc4 H4 g4 => ?_)
  · have hlt : m - d < vals.length := by have := of_decide_eq_true hc4; omega
    have hx : vals[vals.length - 1 - (m - d)]? = some (vals.getD (vals.length - 1 - (m - d)) (.var 0)) := by
      rw [List.getD_eq_getElem?_getD, List.getElem?_eq_getElem (by omega)]; rfl
    rw [pg_lo hlt]
    generalize hu : vals.getD (vals.length - 1 - (m - d)) (.var 0) = u at hx
    have hidx : atI (vals.map enc) ((vals.length : Int) - 1 - ((m : Int) - d)) = some (enc u) := by
      rw [show (vals.length : Int) - 1 - ((m : Int) - d) = ((vals.length - 1 - (m - d) : Nat) : Int) by omega]
      exact atI_nat (by rw [List.getElem?_map, hx]; rfl)
    exact rd_ret (ed_call (dd := [.int 0]) (g4.2 t3) (eda_cons (ed_ixQ hsq (ed_var rfl (g4.dx hv3)) (ed_sub (i := (vals.length : Int) - 1) (j := (m : Int) - d) (ed_sub (i := vals.length) (j := 1) (ed_var rfl (.int _)) ed_int) (ed_sub (i := m) (j := d) (ed_var rfl (.int _)) (ed_var rfl (.int _)))) hidx) (eda_cons (ed_var (d := .int d) rfl (.int _)) eda_nil))
      (fun _ => .cons (.int 0) .nil) ⟨u, d, 0, rfl, (hvn u (List.mem_of_getElem? hx)).1, (hvn u (List.mem_of_getElem? hx)).2, rfl⟩)
  · have hge : vals.length ≤ m - d := by have := of_decide_eq_false hc4; omega
    rw [pg_hi hge]
    refine rd_ret (ed_is (ed_tup (eda_cons ed_str (eda_cons (ed_sub (i := m) (j := vals.length) (ed_var rfl (.int _)) (ed_var rfl (.int _))) eda_nil))) ?_)
    unfold enc
    rw [show (m : Int) - (vals.length : Int) = ((m - vals.length : Nat) : Int) by omega]
/-! ### put_in, put_in_all, arrow -/
abbrev sPi : Stmt := topS 17
theorem scPi : FnScope ["term", "value", "start"] ["term", "value", "start"] (defScope sPi) := ⟨rfl, rfl, rfl, by decide +kernel, rfl, by decide +kernel, by decide +kernel⟩
def rPi (D : Nat) : List PyData → PyData → Prop := fun ds r => ∃ (t v : Tm) (s : Nat), ds = [enc t, enc v, .int s] ∧ dep t ≤ D ∧ cnt t ≤ 50000 ∧ dep v ≤ D ∧ cnt v ≤ 50000 ∧ r = enc (pf [v] s t)
theorem ok_pi {n k : Nat} (F : FunD K "put_in" "put_in" (defArgs sPi) (defBody sPi) (defScope sPi) [.int 0] [] f fd) (GQ : FnOk P w K mg base CX0 k fq fqd ["term", "values", "start"] (spF T (rPif n))) (CQ : Cal K mg "put_in_from" fq fqd ["term", "values", "start"]) :
    FnOk P w K mg base CX0 (k + 1) f fd ["term", "value", "start"] (spF T (rPi n)) := by
  refine mkFD F scPi (fun ds r ⟨d, m, s, e, _⟩ => by rw [e]; rfl) (fun cdv A outer s H vs E ds r hr hR hd hT => ?_)
  obtain ⟨t, v, a, rfl, hn, hcn, hvn, hcv, rfl⟩ := hR
  obtain ⟨v0, v1, v2, rfl, hv, hv1, hv2⟩ := dxA3 hd
  refine ⟨_, pss_one (ps_ret (pe_call GQ hr rfl CQ.m CQ.kp CQ.b .nil pass0 (pa_cons (pv 0) (pa_cons (pe_tup (pa_cons (pv 1) pa_nil)) (pa_cons (pv 2) pa_nil))))), ?_⟩
  exact rd_ret (ed_call (dd := []) hT (eda_cons (ed_var rfl hv) (eda_cons (ed_tup (eda_cons (ed_var rfl hv1) eda_nil)) (eda_cons (ed_var rfl hv2) eda_nil))) (fun _ => .nil) ⟨t, [v], _, a, rfl, .tup _, hn, hcn, fun u hu => by rw [List.mem_singleton.mp hu]; exact ⟨hvn, hcv⟩, rfl⟩)
abbrev sPia : Stmt := topS 18
theorem scPia : FnScope ["term", "values"] ["term", "values"] (defScope sPia) := ⟨rfl, rfl, rfl, by decide +kernel, rfl, by decide +kernel, by decide +kernel⟩
def rPia (D : Nat) : List PyData → PyData → Prop := fun ds r => ∃ (t : Tm) (vals : List Tm), ds = [enc t, .list (vals.map enc)] ∧ dep t ≤ D ∧ cnt t ≤ 50000 ∧ (∀ v ∈ vals, dep v ≤ D ∧ cnt v ≤ 50000) ∧ r = enc (pf vals 0 t)
theorem ok_pia {n k : Nat} (F : Fun K "put_in_all" "put_in_all" sPia f fd) (GQ : FnOk P w K mg base CX0 k fq fqd ["term", "values", "start"] (spF T (rPif n))) (CQ : Cal K mg "put_in_from" fq fqd ["term", "values", "start"]) :
    FnOk P w K mg base CX0 (k + 1) f fd ["term", "values"] (spF T (rPia n)) := by
  refine mkF F scPia (fun ds r ⟨d, m, e, _⟩ => by rw [e]; rfl) (fun cdv A outer s H vs E ds r hr hR hd hT => ?_)
  obtain ⟨t, vals, rfl, hn, hcn, hvn, rfl⟩ := hR
  obtain ⟨v0, v1, rfl, hv, hv1⟩ := dxA2 hd
  refine ⟨_, pss_one (ps_ret (pe_call GQ hr rfl CQ.m CQ.kp CQ.b .nil pass0 (pa_cons (pv 0) (pa_cons (pv 1) (pa_cons pe_int pa_nil))))), ?_⟩
  exact rd_ret (ed_call (dd := []) hT (eda_cons (ed_var rfl hv) (eda_cons (ed_var rfl hv1) (eda_cons ed_int eda_nil))) (fun _ => .nil) ⟨t, vals, _, 0, rfl, .lst _, hn, hcn, hvn, rfl⟩)
abbrev sArrow : Stmt := topS 29
theorem scArrow : FnScope ["kind", "body"] ["kind", "body"] (defScope sArrow) := ⟨rfl, rfl, rfl, by decide +kernel, rfl, by decide +kernel, by decide +kernel⟩
def rArrow (D : Nat) : List PyData → PyData → Prop := fun ds r => ∃ (t v : Tm), ds = [enc t, enc v] ∧ dep v ≤ D ∧ cnt v ≤ 50000 ∧ r = enc (.bind true "_" t (lf 1 0 v))
theorem ok_arrow {n k : Nat} (F : Fun K "arrow" "arrow" sArrow f fd) (GL : FnOk P w K mg base CX0 k fl fld ["term", "many", "start"] (spF T (rLift n))) (CL : CalD K mg "lifted" fl fld ["term", "many", "start"] [.int 0] vds) :
    FnOk P w K mg base CX0 (k + 1) f fd ["kind", "body"] (spF T (rArrow n)) := by
  refine mkF F scArrow (fun ds r ⟨d, m, e, _⟩ => by rw [e]; rfl) (fun cdv A outer s H vs E ds r hr hR hd hT => ?_)
  obtain ⟨t, v, rfl, hn, hcn, rfl⟩ := hR
  obtain ⟨v0, v1, rfl, hv, hv1⟩ := dxA2 hd
  refine ⟨_, pss_one (ps_ret (pe_tup (pa_cons pe_str (pa_cons pe_str (pa_cons (pv 0) (pa_cons (pe_call GL hr rfl CL.m CL.kp CL.b CL.v pass0 (pa_cons (pv 1) (pa_cons pe_int pa_nil))) pa_nil)))))), ?_⟩
  exact rd_ret (ed_tup (eda_cons ed_str (eda_cons ed_str (eda_cons (ed_var rfl hv) (eda_cons (ed_call (dd := [.int 0]) hT (eda_cons (ed_var rfl hv1) (eda_cons ed_int eda_nil)) (fun _ => .cons (.int 0) .nil) ⟨v, 1, 0, rfl, hn, hcn, rfl⟩) eda_nil)))))
end
end K1
namespace K1
open PySem PySem.Spec PyProof.Rows L2
/-- what the written part says of the class TermError, at C -/
structure TErr (K : PySem.W.Frag) (mg : Str → Option Value) (C : Addr) : Prop where
  g : mg "TermError" = some (.ref C)
  x : PySem.W.excIn K C [.type "ValueError", .type "Exception", .type "BaseException", .type "object"] "ValueError.__new__" = true
  k : PySem.W.keepIn K (.ref C) = true
  b : PySem.W.subIn K (.ref C) (.type "BaseException") = some true
  t : PySem.W.typeIn K (.ref C) = some (.type "type")
/-! ### split_pis -/
abbrev sSplit : Stmt := topS 30
theorem scSplit : FnScope ["term", "many", "rows", "_"] ["term", "many"] (defScope sSplit) := ⟨rfl, rfl, rfl, by decide +kernel, rfl, by decide +kernel, by decide +kernel⟩
def spl : Tm → Nat → Option (List (Str × Tm) × Tm)
  | t, 0 => some ([], t)
  | .bind true x k b, m + 1 => (spl b m).map fun r => ((x, k) :: r.1, r.2)
  | _, _ + 1 => none
theorem wd_pi {t : Tm} (h : wd t = "pi") : ∃ x k b, t = .bind true x k b := by
  obtain ⟨p, x, k, b, rfl⟩ := wd_bind (t := t) (by rw [h]; exact of_decide_eq_true rfl)
  cases p with
  | true => exact ⟨x, k, b, rfl⟩
  | false => exact absurd h (of_decide_eq_false rfl)
theorem spl_none {t : Tm} {m : Nat} (h : wd t ≠ "pi") : spl t (m + 1) = none := by
  cases t with
  | bind p x k b =>
    cases p with
    | true => exact absurd rfl h
    | false => rfl
  | _ => rfl
def spSplit (T : Tbl) (C : Addr) : Sp := fun vs H Q E => ∃ (t : Tm) (m : Nat) (v : V), vs = [v, .int m] ∧ Dx H v (enc t) ∧ m ≤ 1000 ∧ Tb T H ∧ (∀ rows u, spl t m = some (rows, u) → ∀ v' H', Gr T H H' → Dx H' v' (.tuple [.list (rows.map encR), enc u]) → Q v' H') ∧
  (spl t m = none → ∀ H', Gr T H H' → E (.ref C) none H')
theorem nl_encR (p : Str × Tm) : nl (encR p) = true := by show (true && (nl (enc p.2) && true)) = true; rw [nl_enc]; rfl
theorem nlA_encR (l : List (Str × Tm)) : nlA (l.map encR) = true := nlA_all fun x h => by
  obtain ⟨p, _, rfl⟩ := List.mem_map.mp h
  exact nl_encR p
section
variable {P : Program} {w : World} {K : PySem.W.Frag} {mg : Str → Option Value} {base : Heap} {T : Tbl} {f : Addr} {fd : FuncData} {C : Addr}
theorem ok_split (F : Fun K "split_pis" "split_pis" sSplit f fd) (X : TErr K mg C) (mr : mg "range" = none) : FnOk P w K mg base (L2.CX P w) 1 f fd ["term", "many"] (spSplit T C) := by
  refine F.okX scSplit (fun vs H Q E ⟨t, m, v, e, _⟩ => by rw [e]; rfl) (fun cdv A outer s H vs Q E hr h => ?_)
  obtain ⟨t, m, v, rfl, hv, hm, hT, hq, he⟩ := h
  refine ⟨_, pss_cons (ps_set (i := 2) scSplit.nd rfl (.inl rfl) (pe_lst pa_nil))
    (pss_cons (ps_for (passes_of rfl) rfl (pi_range1 rfl mr (pa_cons (pv 1) pa_nil)) (pg_name (i := 3) scSplit.nd rfl (.inl rfl))
      (pss_cons (ps_if (pt_cmpR op_ne (pxt 0) pe_str (nomark _)) (pss_one (ps_raise rfl (takes_of rfl rfl rfl rfl) (pmk_own PySem.F.excBase_ValueError X.x X.g X.k (raises_own X.b X.t) rfl))) pss_nil)
      (pss_cons (ps_expr (pe_bm PySem.F.plainAttrs_list PySem.F.slot_list_append PySem.F.type_list_append mt_append (pv 2) (pa_cons (pe_tup (pa_cons (pxt 0) (pa_cons (pxt 0) pa_nil))) pa_nil)))
      (pss_one (ps_set (i := 0) scSplit.nd rfl (.inl rfl) (pxt 0))))))
    (pss_one (ps_ret (pe_tup (pa_cons (pv 2) (pa_cons (pv 0) pa_nil)))))), ?_⟩
  refine ⟨szl (by decide), fun l hl => ?_⟩
  have gl : Gr T H (upd H l (.lst [])) := Gr.new hl
  refine ⟨_, rfl, m, rfl, by omega, by omega, for_range (lo := 0) (n := m) (fun i σ H' => Gr T H H' ∧ ∃ vu u done xs c, σ = [some vu, some (.int m), some (.ref l), c] ∧ Dx H' vu (enc u) ∧ H' l = some (.lst xs) ∧ DxA H' xs (done.map encR) ∧ done.length = i ∧ spl t m = (spl u (m - i)).map fun r => (done ++ r.1, r.2)) ?_ ?_ ?_⟩
  · refine ⟨gl, v, t, [], [], none, rfl, gl.dx hv, upd_same, .nil, rfl, ?_⟩
    show spl t m = (spl t (m - 0)).map fun r => ([] ++ r.1, r.2)
    rw [Nat.sub_zero]
    cases spl t m <;> rfl
  · rintro i σ H' hi ⟨g, vu, u, done, xs, c, rfl, hu, hx, hxs, hdl, hs⟩
    obtain ⟨rest, hrest⟩ := enc_hd u
    have hu' := hu
    rw [hrest] at hu'
    obtain ⟨mi, hmi⟩ : ∃ mi, m - i = mi + 1 := ⟨m - i - 1, by omega⟩
    rw [hmi] at hs
    refine (et_test (T := T) (ed_neS (ed_x rfl hu' (atI_nat (j := 0) rfl)) ed_str)) H' (Gr.refl H') _ fun H1 g1 => ?_
    refine ite2 (fun hc => ?_) (fun hc => ?_)
    · refine he ?_ H1 (g.trans g1)
      rw [hs, spl_none (by simpa using hc)]
      rfl
    · obtain ⟨x, k, b, rfl⟩ := wd_pi (t := u) (by simpa using hc)
      have hxl : xs.length < 100000 := by rw [hxs.length, List.length_map]; omega
      refine s_app (T := T) (d := encR (x, k)) rfl (g1.lsts hx) (ed_tup (eda_cons (ed_x rfl (g1.dx hu) rfl) (eda_cons (ed_x rfl (g1.dx hu) rfl) eda_nil))) hxl fun v3 H3 g3 hv3 => ?_
      have hx3 := g3.lsts (g1.lsts hx)
      have st3 := stt_mut (o := .lst (xs ++ [v3])) hx3
      have hv5 : Dx _ vu (enc (.bind true x k b)) := Dx.stt st3 _ _ (nl_enc _) (g3.dx (g1.dx hu))
      refine s_set (T := T) (d := enc b) (ed_x rfl hv5 rfl) fun v4 H4 g4 hv4 => ?_
      have g3' : Gr T H' (upd H3 l (.lst (xs ++ [v3]))) ∨ True := .inr trivial
      refine ⟨((g.trans (g1.trans g3)).mut hl hx3).trans g4, v4, b, done ++ [(x, k)], _, _, rfl, hv4, g4.lsts upd_same, ?_, by rw [List.length_append, List.length_singleton, hdl], ?_⟩
      · rw [List.map_append]
        exact g4.dxA (DxA.stt st3 _ _ (by rw [← List.map_append]; exact nlA_encR _) ((g3.dxA (g1.dxA hxs)).append (.cons hv3 .nil)))
      · rw [hs, show m - (i + 1) = mi by omega]
        show ((spl b mi).map fun r => ((x, k) :: r.1, r.2)).map _ = _
        cases spl b mi with
        | none => rfl
        | some r => simp
  · rintro σ H' ⟨g, vu, u, done, xs, c, rfl, hu, hx, hxs, hdl, hs⟩
    rw [Nat.sub_self] at hs
    have hs' : spl t m = some (done, u) := by rw [hs]; cases u <;> simp [spl]
    have ed : ED T (tTup (tCons (tVar 2) (tCons (tVar 0) tNil))) [some vu, some (.int m), some (.ref l), c] H' (.tuple [.list (done.map encR), enc u]) := ed_tup (eda_cons (ed_var rfl (.lst hx hxs)) (eda_cons (ed_var rfl hu) eda_nil))
    exact ed H' (Gr.refl _) _ fun w H2 g2 hw => hq done u hs' w H2 (g.trans g2) hw
end
end K1
namespace K1
open PySem PySem.Spec PyProof.Rows L2
/-! ### a generator expression over pairs -/
structure GenS2 (env : Env) (scope : Scope) (xa xb : Str) : Prop where
  kind : scope.kind = .function
  co : scope.isCoroutine = false
  cell : ∀ y ∈ scope.names, y.2 ≠ .cell
  dot : scope.names.lookup (".0" : Str) = some NameKind.local
  la : scope.names.lookup xa = some .local
  lb : scope.names.lookup xb = some .local
  free : ∀ y ∈ scope.names, y.2 = .free → ∃ c, env.cells.lookup y.1 = some c
section
variable {X : Cx} {T : Tbl} {pins : List (Addr × Obj)} {σ : L2.St} {H : Hp} {s : Shared}
theorem inv_gens {g' : Array GenState} {d' : Drawn} {t' : Nat} (I : Inv X pins σ H s) (hg : AllBare g') : Inv X pins σ H { s with gens := g', drawn := d', toks := t' } :=
  I.step (h' := s.heap) (g' := g') (d' := d') (t' := t') (ch := []) (fun b hb => absurd hb (by simp)) (fun b o _ _ _ e _ => e) (fun b o _ _ _ e _ => ⟨o.slots, e⟩) (fun _ _ _ _ n => n) (fun b o _ e => ⟨o, e⟩) (fun _ _ e => e) (fun _ _ _ e => e) (fun b ps e => ⟨#[], by rw [e]; simp⟩) (fun _ h => h) I.hok hg
/-- what an iterator over pairs brings: sI, the state ahead of it; the element's value at turn i is tr i -/
structure Pairs (X : Cx) (T : Tbl) (P : Addr) (elt : Expr) (xa xb : Str) (scope : Scope) (pins : List (Addr × Obj)) (σ : L2.St) (tr : Nat → Bool) (n : Nat) (H1 : Hp) (sI : Shared) (it : Value) (s₂ : Shared) : Prop where
  inv : Inv X pins σ H1 sI
  tb : Tb T H1
  ex : ∃ (h2 : Heap) (tk2 : Nat) (I0 : Addr) (fp wr : List Addr) (Pt : Nat → Array Value → Prop) (St₀ : Nat → Heap → Prop) (Mid : Nat → Addr → Heap → Prop),
    it = .ref I0 ∧ s₂ = { sI with heap := h2, toks := tk2 } ∧ (∀ b o, sI.heap.get? b = some o → h2.get? b = some o) ∧ (∀ b ∈ wr, sI.heap.objs.size ≤ b) ∧ sI.heap.objs.size ≤ h2.objs.size ∧
    (∀ A' : Around, A'.handled = none → WalksU X.prog X.w A' I0 fp wr n Pt St₀ Mid) ∧ (∀ i vals, Pt i vals → ∃ va vb, vals = #[va, vb]) ∧ St₀ 0 h2 ∧ (∀ b ∈ fp, b < h2.objs.size) ∧ P ∉ fp ∧
    (∀ (A' : Around) E' i va vb (t : Shared) m₂ (C : Addr) (code : Value) (bi : Addr), A'.handled = none → A'.depth ≤ X.A.depth + 1 → A'.units ≤ X.A.units + 8 → Pt i #[va, vb] → t.heap.Ns C m₂ → m₂ xa = some va → m₂ xb = some vb →
      (∀ b o, b ≠ P → b ∉ wr → h2.get? b = some o → t.heap.get? b = some o) →
      wpAny (model X.prog X.w) A' (eval elt (genEnv scope (cloFrom X.env.cells scope.names []) C code bi X.env)) (fun y s₃ => y = .bool (tr i) ∧ Keeps t s₃) E' t)
/-- the generator g, ready to be walked, in the state s5 -/
def Ready2 (X : Cx) (T : Tbl) (pins : List (Addr × Obj)) (σ : L2.St) (H1 : Hp) (tr : Nat → Bool) (n : Nat) (g : Addr) (s5 : Shared) : Prop :=
  ∃ (fp wr : List Addr) (G : Array GenState → Array GenState → Prop) (F : Nat → Value → Prop) (St : Nat → Shared → Prop),
    WalksS X.prog X.w X.A.in1 g fp wr G n F St ∧ St 0 s5 ∧ TruthOf X.prog X.w X.A.in1 F tr ∧ ∀ s', Moved wr G s5 s' → ∃ H2, Gr T H1 H2 ∧ Inv X pins σ H2 s'
theorem gen_pair {c P : Addr} {q : Str} {elt iter : Expr} {xa xb : Str} {pa pb pt gpos : Pos} {kt : Nat} {scope : Scope} {k : Nat} {Q' : Value → Shared → Prop} {R : (Nat → Bool) → Nat → Hp → Prop}
    (hr : Room k X.A) (TB : LamX.TabB X.base X.mg c P) (hcode : X.env.code = .ref c) (S : GenS2 X.env scope xa xb) (hab : xa ≠ xb) (hq : X.env.qual ++ "<genexpr>" = q) (hm : (P, q) ∈ T.list) (hu : ∀ p ∈ T.list, p.1 = P → p.2 = q) (hs : ∀ v, genFold iter X.env v = pure v)
    (h : wpAny (model X.prog X.w) X.A (eval iter X.env) (fun xv s₁ => wpAny (model X.prog X.w) X.A (pyIter xv) (fun it s₂ => ∃ tr n H1 sI, Pairs X T P elt xa xb scope pins σ tr n H1 sI it s₂ ∧ R tr n H1) X.xe s₁) X.xe s)
    (hQ : ∀ tr n H1 g s5, R tr n H1 → Ready2 X T pins σ H1 tr n g s5 → Q' (.ref g) s5) :
    wpAny (model X.prog X.w) X.A (eval (.GeneratorExp elt [⟨.Tuple [.Name xa pa, .Name xb pb] kt pt, iter, [], 0⟩] scope gpos) X.env) Q' X.xe s := by
  refine wpAny_GeneratorExp_walksQTD hr.hd S.co (closure_ok S.free) S.cell S.dot S.la S.lb hab S.kind (by have := hr.dp; omega) (thn h fun xv s1 h1 => thn h1 fun it s2 h2 => ?_) hs
  obtain ⟨tr, n, H1, sI, PP, hR⟩ := h2
  have I1 := PP.inv
  obtain ⟨h2, tk2, I0, fp, wr, Pt, St₀, Mid, rfl, rfl, hkI, hwr, hsI2, W, hsz2, hst, hfp, hPf, hel⟩ := PP.ex
  obtain ⟨ps, hP, ht, hc⟩ := PP.tb _ hm
  have hPs : sI.heap.get? P = some { cls := .none, data := .fields ps } := I1.hok P _ hP
  have hPlt : P < sI.heap.objs.size := Heap.lt_size hPs
  have hP2 : h2.get? P = some { cls := .none, data := .fields ps } := hkI _ _ hPs
  have lim2 : h2.NoLimit := I1.nolimit.keeps hkI
  have hqq : (X.env.qual ++ "<genexpr>" : Str) = q := hq
  have hcl : cStatics < sI.heap.objs.size := let ⟨_, hns, _⟩ := I1.nolimit; hns.lt
  have hcP : cStatics ≠ P := fun e => by
    obtain ⟨_, hns, _⟩ := I1.nolimit
    obtain ⟨o', es, ep, ho, hd, _⟩ := hns
    rw [e, hPs] at ho
    cases ho
    cases hd
  have cd : PySem.W.CodeHd h2 c P := TB.code.keeps fun b u e => hkI _ _ (I1.bk b u e)
  -- cN: the new code object, if one is made
  have cont : ∀ (code : Value) (h3 : Heap) (tk : Nat) (ps' : Array Value), Heap.ExtBut P h2 h3 → h2.objs.size ≤ h3.objs.size → h3.get? P = some { cls := .none, data := .fields ps' } →
      ((ps' = ps ∧ ∀ b o, h2.get? b = some o → h3.get? b = some o) ∨ ∃ c', code = .ref c' ∧ ps' = ps ++ #[rawInt gpos.line, rawInt gpos.col, .ref c'] ∧ h2.objs.size ≤ c' ∧ c' < h3.objs.size ∧ h3.CodeRec (.ref c') q) →
      wpAny (model X.prog X.w) X.A (builtinsFor X.env.globals X.env.builtins) (fun bi s₄ =>
        ∃ Ia fp wr n₀ Pf St₀ Mid pz F, Value.ref I0 = .ref Ia ∧ (∀ A' : Around, A'.handled = none → WalksU X.prog X.w A' Ia fp wr n₀ Pf St₀ Mid) ∧ (∀ i vals, Pf i vals → ∃ va vb, vals = #[va, vb]) ∧ St₀ 0 s₄.heap ∧ (∀ b ∈ fp, b < s₄.heap.objs.size) ∧ s₄.heap.NoLimit ∧ cStatics ∉ wr ∧
          (∀ href : Heap, (∀ b o, s₄.heap.get? b = some o → href.get? b = some o) →
            QuietGenTD X.prog X.w (genEnv scope (cloFrom X.env.cells scope.names []) s₄.heap.objs.size code bi X.env) xa xb [] elt (List.range s₄.heap.objs.size) wr Pf pz F href (X.A.depth + 1) (X.A.units + 8)) ∧
          (∀ a h₅ tk gs, gs.bare = true → s₄.heap.objs.size < a → h₅.objs.size = a + 1 → (∀ b o, s₄.heap.get? b = some o → h₅.get? b = some o) →
            WalksS X.prog X.w X.A.in4 a (a :: s₄.heap.objs.size :: List.range s₄.heap.objs.size) (s₄.heap.objs.size :: wr) (GenOnlyQ s₄.gens.size) (passing pz n₀ 0).length
              (fun j y => ∃ i, (passing pz n₀ 0)[j]? = some i ∧ F i y) (GenAt X.prog X.w X.A.in4 a s₄.gens.size s₄.heap.objs.size (List.range s₄.heap.objs.size) wr pz n₀ F) →
            GenAt X.prog X.w X.A.in4 a s₄.gens.size s₄.heap.objs.size (List.range s₄.heap.objs.size) wr pz n₀ F 0 { s₄ with gens := s₄.gens.push gs, toks := tk, heap := h₅ } →
            Q' (.ref a) { s₄ with gens := s₄.gens.push gs, toks := tk, heap := h₅ })) X.xe { sI with heap := h3, toks := tk } := by
    intro code h3 tk ps' hx hsz hP3 hnew
    obtain ⟨bm, ob, e1, e2, e3, e4, e5, e6, e7, e8⟩ := TB.bm
    have keep3 : ∀ b u, b ≠ P → sI.heap.get? b = some u → h3.get? b = some u := fun b u hb e => hx b u hb (hkI _ _ e)
    refine wpAny_builtinsFor (m := X.mg) (by rw [I1.ok.glob]; exact ((I1.mod.glob.keeps I1.bk).keeps hkI).extBut hx TB.gP) e1 e2 (keep3 _ _ e4 (I1.bk _ _ e5)) e6 e7 e8 ?_
    refine ⟨I0, fp, wr, n, Pt, St₀, Mid, (fun _ => true), (fun i y => y = .bool (tr i)), rfl, W, hsz2, ?_, ?_, lim2.extBut hx hcP, ?_, ?_, ?_⟩
    · exact (W X.A hr.hd).frame _ _ _ hst fun b hb u e => hx b u (fun z => hPf (z ▸ hb)) e
    · intro b hb
      exact Nat.lt_of_lt_of_le (hfp b hb) hsz
    · intro z
      exact Nat.lt_irrefl _ (Nat.lt_of_lt_of_le hcl (hwr _ z))
    · intro href hhref
      refine ⟨fun A' E' i va vb s₂ m₂ hA hD hU hPv hn hma hmb hk => ?_, fun A' E' i va vb s₂ m₂ hA hD hU hPv hp hn hma hmb hk => ?_⟩
      · simp only [List.forIn_nil]
        exact wpAny_pure ⟨rfl, GxR.keeps_refl _⟩
      · exact hel A' E' i va vb s₂ m₂ _ code _ hA hD hU hPv hn hma hmb fun b o hbP hbw e => hk b (List.mem_range.mpr (Heap.lt_size (hx b o hbP e))) hbw o (hhref b o (hx b o hbP e))
    · intro g h5 tk5 gs hgb hag hsz5 hk5 W5 hat
      simp only [GxR.passing_true, List.length_range] at W5
      refine hQ tr n H1 g _ hR ⟨_, _, _, _, _, W5.in4_1, hat, ?_, fun s' hmv => ?_⟩
      · intro j y sj Qj Ej hy hQj
        obtain ⟨i, hij, rfl⟩ := hy
        obtain ⟨hj, ej⟩ := List.getElem?_eq_some_iff.mp hij
        rw [List.getElem_range] at ej
        subst ej
        exact wpAny_truthy_bool hQj
      · have nwr : ∀ b, b < h2.objs.size → b ∉ wr → b ∉ h3.objs.size :: wr := fun b hl hw hb => by
          rcases List.mem_cons.mp hb with z | z
          · rw [z] at hl
            exact Nat.lt_irrefl _ (Nat.lt_of_lt_of_le hl hsz)
          · exact hw z
        have nwI : ∀ b u, sI.heap.get? b = some u → b ∉ h3.objs.size :: wr := fun b u e => nwr b (Nat.lt_of_lt_of_le (Heap.lt_size e) hsI2) fun z => Nat.lt_irrefl _ (Nat.lt_of_lt_of_le (Heap.lt_size e) (hwr b z))
        have kall : ∀ b u, b ≠ P → sI.heap.get? b = some u → s'.heap.get? b = some u := fun b u hb e => hmv.heap b u (nwI b u e) (hk5 b u (keep3 b u hb e))
        have hbare : AllBare s'.gens := AllBare.movedS (I1.bare.push hgb) hmv
        rcases hnew with ⟨rfl, hall⟩ | ⟨c', rfl, rfl, hc1, hc2, hrec⟩
        · have kall' : ∀ b u, sI.heap.get? b = some u → s'.heap.get? b = some u := fun b u e => hmv.heap b u (nwI b u e) (hk5 b u (hall b u (hkI b u e)))
          have J := inv_gens (g' := s'.gens) (d' := s'.drawn) (t' := s'.toks) (I1.kept (t' := sI.toks) kall') hbare
          refine ⟨H1, Gr.refl _, ?_⟩
          have e9 := GxR.sh_eta sI s' hmv.os
          rw [← e9]
          exact J
        · have hcw : c' ∉ h3.objs.size :: wr := fun hb => by
            rcases List.mem_cons.mp hb with z | z
            · exact Nat.lt_irrefl _ (z ▸ hc2)
            · exact Nat.lt_irrefl _ (Nat.lt_of_lt_of_le (hfp _ ((W X.A hr.hd).sub _ z)) hc1)
          obtain ⟨c2, oc, vs, t, e9, hoc, hdc, hvc⟩ := hrec
          cases e9
          have hoc' : s'.heap.get? c' = some oc := hmv.heap c' oc hcw (hk5 c' oc hoc)
          have hPm : s'.heap.get? P = some { cls := .none, data := .fields (ps ++ #[rawInt gpos.line, rawInt gpos.col, .ref c']) } := hmv.heap P _ (nwI P _ hPs) (hk5 P _ hP3)
          have nC : H1 c' = none := I1.hok.fresh (Nat.le_trans hsI2 hc1)
          have J0 := LamX.inv_table (t' := sI.toks) (more := #[rawInt gpos.line, rawInt gpos.col, .ref c']) (h' := s'.heap) (c := c') (q := q) I1 hP (fun b u hb e => kall b u hb e) hPm (Nat.le_trans hsI2 hc1) ⟨oc, vs, t, hoc', hdc, hvc⟩
          have J := inv_gens (g' := s'.gens) (d' := s'.drawn) (t' := s'.toks) J0 hbare
          refine ⟨upd (upd H1 P (.tbl (ps ++ #[rawInt gpos.line, rawInt gpos.col, .ref c']))) c' (LamX.CodeO c' q), ⟨fun b o e nt => ?_, fun tb p hp => ?_⟩, ?_⟩
          · rw [upd_ne (ne_of_none e nC), upd_ne (fun z => nt ps (Option.some.inj (e.symm.trans (by rw [z]; exact hP))))]
            exact e
          · have hE : ∀ b o, H1 b = some o → (∀ ps, o ≠ .tbl ps) → upd (upd H1 P (.tbl (ps ++ #[rawInt gpos.line, rawInt gpos.col, .ref c']))) c' (LamX.CodeO c' q) b = some o := fun b o e nt => by
              rw [upd_ne (ne_of_none e nC), upd_ne (fun z => nt ps (Option.some.inj (e.symm.trans (by rw [z]; exact hP))))]
              exact e
            have eL : (ps ++ #[rawInt gpos.line, rawInt gpos.col, .ref c']).toList = ps.toList ++ [rawInt gpos.line, rawInt gpos.col, .ref c'] := by simp
            by_cases hb : p.1 = P
            · rw [hu p hp hb, hb]
              refine ⟨_, by rw [upd_ne (ne_of_none hP nC), upd_same], by rw [eL]; exact PySem.TriplesOk_snoc _ _ _ _ ht, fun p' cv hcv => ?_⟩
              rw [eL] at hcv
              rcases LamX.among_app _ ht hcv with z | z
              · obtain ⟨c0, e1, e2⟩ := hc p' cv z
                exact ⟨c0, e1, hE _ _ e2 LamX.codeO_ne⟩
              · exact ⟨c', z, upd_same⟩
            · obtain ⟨ps', a1, a2, a3⟩ := tb p hp
              refine ⟨ps', by rw [upd_ne (ne_of_none a1 nC), upd_ne hb]; exact a1, a2, fun p' cv hcv => ?_⟩
              obtain ⟨c0, e1, e2⟩ := a3 p' cv hcv
              exact ⟨c0, e1, hE _ _ e2 LamX.codeO_ne⟩
          · have e9 := GxR.sh_eta sI s' hmv.os
            rw [← e9]
            exact J
  refine ⟨lim2, ?_⟩
  cases hf : codeAmong gpos ps.toList with
  | none =>
    refine wpAny_genexprCodeX hcode (cd.code hP2 ht) (cd.tab hP2) hf fun c' h' tk hx hge hlt hco' hrec' htab' _ => ?_
    rw [hqq] at hrec'
    exact cont _ h' tk _ hx (Nat.le_trans hge (Nat.le_of_lt hlt)) htab'.2 (.inr ⟨c', rfl, rfl, hge, hlt, hrec'⟩)
  | some cv =>
    refine wpAny_genexprCode_hit hcode (cd.code hP2 ht) hf ?_
    exact cont cv h2 tk2 ps (Heap.ExtBut.refl _ _) (Nat.le_refl _) hP2 (.inl ⟨rfl, fun _ _ e => e⟩)
end
end K1
namespace K1
open PySem PySem.Spec PyProof.Rows L2
/-! ### data read in a heap that keeps what is tracked as tuples and lists -/
section
variable {P : Program} {w : World} {H : Hp} {h h' : Heap}
mutual
theorem Dx.reads (ok : HOk P w H h) (kt : ∀ a o, ((∃ xs, H a = some (.tup xs)) ∨ ∃ xs, H a = some (.lst xs)) → h.get? a = some o → h'.get? a = some o) : ∀ (d : PyData) (v : V) (u : Value), Dx H v d → RelV v u → ∃ as, Reads h' u d as
  | .none, _, _, x, r => by
    cases x
    cases r
    exact ⟨_, Reads.none⟩
  | .bool b, _, _, x, r => by
    cases x
    cases r
    exact ⟨_, Reads.bool b⟩
  | .int i, _, _, x, r => by
    cases x
    obtain ⟨t, rfl⟩ := r
    exact ⟨_, Reads.int i t⟩
  | .str x, _, _, y, r => by
    cases y
    obtain ⟨t, rfl⟩ := r
    exact ⟨_, Reads.str x t⟩
  | .list ds, _, _, x, r => by
    cases x with
    | lst hs ha =>
      cases r
      obtain ⟨_, its, n, rv, e⟩ := ok _ _ hs
      obtain ⟨as, hr⟩ := DxA.reads ok kt ds _ its ha rv
      exact ⟨_, Reads.list (kt _ _ (.inr ⟨_, hs⟩) e) rfl rfl hr⟩
  | .tuple ds, _, _, x, r => by
    cases x with
    | tup hs ha =>
      cases r
      obtain ⟨_, its, rv, o, e, hc, n, hd⟩ := ok _ _ hs
      obtain ⟨as, hr⟩ := DxA.reads ok kt ds _ its ha rv
      exact ⟨_, Reads.tuple (kt _ _ (.inl ⟨_, hs⟩) e) hc hd hr⟩
  | .dict _, _, _, x, _ => by cases x
theorem DxA.reads (ok : HOk P w H h) (kt : ∀ a o, ((∃ xs, H a = some (.tup xs)) ∨ ∃ xs, H a = some (.lst xs)) → h.get? a = some o → h'.get? a = some o) : ∀ (ds : List PyData) (vs : List V) (us : List Value), DxA H vs ds → Vals vs us → ∃ as, ReadsAll h' us ds as
  | [], _, _, x, r => by
    cases x
    cases r
    exact ⟨_, ReadsAll.nil⟩
  | d :: ds, _, _, x, r => by
    cases x with
    | cons h1 h2 =>
      cases r with
      | cons r1 r2 =>
        obtain ⟨as, q1⟩ := Dx.reads ok kt d _ _ h1 r1
        obtain ⟨bs, q2⟩ := DxA.reads ok kt ds _ _ h2 r2
        exact ⟨_, ReadsAll.cons q1 q2⟩
end
end
/-! ### any, all of a generator expression over pairs -/
section
variable {X : Cx} {T : Tbl}
/-- an iterator over pairs, as an expression -/
structure PIt (X : Cx) (T : Tbl) (P : Addr) (elt : Expr) (xa xb : Str) (scope : Scope) (iter : Expr) (ti : L2.St → Hp → ((Nat → Bool) → Nat → Hp → Prop) → Prop) : Prop where
  run : ∀ (pins : List (Addr × Obj)) (s : Shared) (σ : L2.St) (H : Hp) (R : (Nat → Bool) → Nat → Hp → Prop), Inv X pins σ H s → ti σ H R →
    wpAny (model X.prog X.w) X.A (eval iter X.env) (fun xv s₁ => wpAny (model X.prog X.w) X.A (pyIter xv) (fun it s₂ => ∃ tr n H1 sI, Pairs X T P elt xa xb scope pins σ tr n H1 sI it s₂ ∧ R tr n H1) X.xe s₁) X.xe s
def tAnyP (T : Tbl) (ti : L2.St → Hp → ((Nat → Bool) → Nat → Hp → Prop) → Prop) : TE := fun σ H Q => ti σ H fun tr n H1 => ∀ H2, Gr T H1 H2 → Q (.bl ((List.range n).any tr)) H2
def tAllP (T : Tbl) (ti : L2.St → Hp → ((Nat → Bool) → Nat → Hp → Prop) → Prop) : TE := fun σ H Q => ti σ H fun tr n H1 => ∀ H2, Gr T H1 H2 → Q (.bl ((List.range n).all tr)) H2
theorem pe_anyP {c P : Addr} {q : Str} {elt iter : Expr} {xa xb : Str} {pa pb pt p pos gpos : Pos} {kt : Nat} {scope : Scope} {k : Nat} {ti : L2.St → Hp → ((Nat → Bool) → Nat → Hp → Prop) → Prop}
    (hr : Room k X.A) (hg : Gl X "any") (hm : X.mg "any" = none) (TB : LamX.TabB X.base X.mg c P) (hcode : X.env.code = .ref c) (S : X.Ok → GenS2 X.env scope xa xb) (hab : xa ≠ xb) (hq : X.env.qual ++ "<genexpr>" = q) (hmT : (P, q) ∈ T.list) (hu : ∀ p ∈ T.list, p.1 = P → p.2 = q)
    (hs : ∀ v, genFold iter X.env v = pure v) (hi : PIt X T P elt xa xb scope iter ti)
    (he : starEach [.GeneratorExp elt [⟨.Tuple [.Name xa pa, .Name xb pb] kt pt, iter, [], 0⟩] scope gpos] X.env = (false, eval (.GeneratorExp elt [⟨.Tuple [.Name xa pa, .Name xb pb] kt pt, iter, [], 0⟩] scope gpos) X.env) :: starEach [] X.env := by rfl) :
    PE X (.Call (.Name "any" p) [.GeneratorExp elt [⟨.Tuple [.Name xa pa, .Name xb pb] kt pt, iter, [], 0⟩] scope gpos] [] pos) (tAnyP T ti) := by
  refine ⟨fun pins s σ H Q I h => ?_⟩
  refine wpAny_Call_Name_kw (ld_blt I hg hm boot_any ?_)
  refine PyProof.Rows.callWith_builtin1 ?_ he (by rfl)
  rw [he]
  show wpAny _ _ (spliced ((false, eval (.GeneratorExp elt [⟨.Tuple [.Name xa pa, .Name xb pb] kt pt, iter, [], 0⟩] scope gpos) X.env) :: backTo pos (starEach [] X.env))) _ _ s
  refine Calls.spliced_cons (gen_pair (R := fun tr n H1 => ∀ H2, Gr T H1 H2 → Q (.bl ((List.range n).any tr)) H2) hr TB hcode (S I.ok) hab hq hmT hu hs (hi.run pins s σ H _ I h) fun tr n H1 g s5 hR hG => ?_)
  obtain ⟨fp, wr, G, F, St, W, hst, htr, hI⟩ := hG
  refine Calls.spliced_nil ?_
  refine call_any_walkS (W.self 0 _ _ _ hst ⟨g, fp, wr, G, _, F, St, _, rfl, W, hst, htr, fun s' hmv => ?_⟩)
  obtain ⟨H2, hT, J⟩ := hI s' hmv
  exact ⟨.bl _, H2, J, rfl, hR H2 hT⟩
theorem pe_allP {c P : Addr} {q : Str} {elt iter : Expr} {xa xb : Str} {pa pb pt p pos gpos : Pos} {kt : Nat} {scope : Scope} {k : Nat} {ti : L2.St → Hp → ((Nat → Bool) → Nat → Hp → Prop) → Prop}
    (hr : Room k X.A) (hg : Gl X "all") (hm : X.mg "all" = none) (TB : LamX.TabB X.base X.mg c P) (hcode : X.env.code = .ref c) (S : X.Ok → GenS2 X.env scope xa xb) (hab : xa ≠ xb) (hq : X.env.qual ++ "<genexpr>" = q) (hmT : (P, q) ∈ T.list) (hu : ∀ p ∈ T.list, p.1 = P → p.2 = q)
    (hs : ∀ v, genFold iter X.env v = pure v) (hi : PIt X T P elt xa xb scope iter ti)
    (he : starEach [.GeneratorExp elt [⟨.Tuple [.Name xa pa, .Name xb pb] kt pt, iter, [], 0⟩] scope gpos] X.env = (false, eval (.GeneratorExp elt [⟨.Tuple [.Name xa pa, .Name xb pb] kt pt, iter, [], 0⟩] scope gpos) X.env) :: starEach [] X.env := by rfl) :
    PE X (.Call (.Name "all" p) [.GeneratorExp elt [⟨.Tuple [.Name xa pa, .Name xb pb] kt pt, iter, [], 0⟩] scope gpos] [] pos) (tAllP T ti) := by
  refine ⟨fun pins s σ H Q I h => ?_⟩
  refine wpAny_Call_Name_kw (ld_blt I hg hm boot_all ?_)
  refine PyProof.Rows.callWith_builtin1 ?_ he (by rfl)
  rw [he]
  show wpAny _ _ (spliced ((false, eval (.GeneratorExp elt [⟨.Tuple [.Name xa pa, .Name xb pb] kt pt, iter, [], 0⟩] scope gpos) X.env) :: backTo pos (starEach [] X.env))) _ _ s
  refine Calls.spliced_cons (gen_pair (R := fun tr n H1 => ∀ H2, Gr T H1 H2 → Q (.bl ((List.range n).all tr)) H2) hr TB hcode (S I.ok) hab hq hmT hu hs (hi.run pins s σ H _ I h) fun tr n H1 g s5 hR hG => ?_)
  obtain ⟨fp, wr, G, F, St, W, hst, htr, hI⟩ := hG
  refine Calls.spliced_nil ?_
  refine call_all_walkS (W.self 0 _ _ _ hst ⟨g, fp, wr, G, _, F, St, _, rfl, W, hst, htr, fun s' hmv => ?_⟩)
  obtain ⟨H2, hT, J⟩ := hI s' hmv
  exact ⟨.bl _, H2, J, rfl, hR H2 hT⟩
end
/-- by place -/
def byP {α : Type} (f : α → Bool) (l : List α) (j : Nat) : Bool := match l[j]? with
  | some x => f x
  | none => false
theorem byP_some {α : Type} {f : α → Bool} {l : List α} {j : Nat} {x : α} (h : l[j]? = some x) : byP f l j = f x := by
  unfold byP
  rw [h]
theorem any_byP {α : Type} (f : α → Bool) (l : List α) : (List.range l.length).any (byP f l) = l.any f := by
  rw [Bool.eq_iff_iff, List.any_eq_true, List.any_eq_true]
  constructor
  · intro ⟨j, hj, h⟩
    have hj' := List.mem_range.mp hj
    rw [byP_some (List.getElem?_eq_getElem hj')] at h
    exact ⟨l[j], List.getElem_mem hj', h⟩
  · intro ⟨b, hb, h⟩
    obtain ⟨j, hj, e⟩ := List.getElem_of_mem hb
    refine ⟨j, List.mem_range.mpr hj, ?_⟩
    rw [byP_some (List.getElem?_eq_getElem hj), e]
    exact h
theorem all_byP {α : Type} (f : α → Bool) (l : List α) : (List.range l.length).all (byP f l) = l.all f := by
  rw [Bool.eq_iff_iff, List.all_eq_true, List.all_eq_true]
  constructor
  · intro h b hb
    obtain ⟨j, hj, e⟩ := List.getElem_of_mem hb
    have q := h j (List.mem_range.mpr hj)
    rw [byP_some (List.getElem?_eq_getElem hj), e] at q
    exact q
  · intro h j hj
    have hj' := List.mem_range.mp hj
    rw [byP_some (List.getElem?_eq_getElem hj')]
    exact h _ (List.getElem_mem hj')
/-! ### uses_var -/
abbrev sUv : Stmt := topS 21
theorem scUv : FnScope ["term", "number"] ["term", "number"] (defScope sUv) := ⟨rfl, rfl, rfl, by decide +kernel, rfl, by decide +kernel, by decide +kernel⟩
def uvP (k : Nat) (p : Tm × Nat) : Bool := PyData.eqv (enc p.1) (.tuple [.str "var", .int ((k : Int) + p.2)])
def rUv : List PyData → PyData → Prop := fun ds r => ∃ (t : Tm) (k : Nat), ds = [enc t, .int k] ∧ cnt t ≤ 50000 ∧ TmOk t ∧ dep t ≤ 60 ∧ r = .bool ((nd t 0).any (uvP k))
theorem nd_ok (t : Tm) : ∀ a, TmOk t → ∀ p ∈ nd t a, TmOk p.1 ∧ dep p.1 ≤ dep t := by
  induction t with
  | var n => intro a h p hp; simp [nd] at hp; subst hp; exact ⟨h, Nat.le_refl _⟩
  | leaf l => intro a h p hp; simp [nd] at hp; subst hp; exact ⟨h, Nat.le_refl _⟩
  | bind q x k b i1 i2 =>
    intro a h p hp
    simp only [nd, List.mem_cons, List.mem_append] at hp
    rcases hp with rfl | hp | hp
    · exact ⟨h, Nat.le_refl _⟩
    · have := i1 a h.2.1 p hp; simp only [dep]; exact ⟨this.1, by omega⟩
    · have := i2 _ h.2.2 p hp; simp only [dep]; exact ⟨this.1, by omega⟩
  | app f x i1 i2 =>
    intro a h p hp
    simp only [nd, List.mem_cons, List.mem_append] at hp
    rcases hp with rfl | hp | hp
    · exact ⟨h, Nat.le_refl _⟩
    · have := i1 a h.1 p hp; simp only [dep]; exact ⟨this.1, by omega⟩
    · have := i2 _ h.2 p hp; simp only [dep]; exact ⟨this.1, by omega⟩
  | letE y k v b i1 i2 i3 =>
    intro a h p hp
    simp only [nd, List.mem_cons, List.mem_append] at hp
    rcases hp with rfl | hp | hp | hp
    · exact ⟨h, Nat.le_refl _⟩
    · have := i1 a h.2.1 p hp; simp only [dep]; exact ⟨this.1, by omega⟩
    · have := i2 _ h.2.2.1 p hp; simp only [dep]; exact ⟨this.1, by omega⟩
    · have := i3 _ h.2.2.2 p hp; simp only [dep]; exact ⟨this.1, by omega⟩
end K1
namespace K1
open PySem PySem.Spec PyProof.Rows L2
section
variable {X : Cx} {T : Tbl}
theorem pit_uv {P : Addr} {scope : Scope} {iter : Expr} {te : TE} {k : Nat} {j1 k6 : Nat} {p1 p2 p3 p4 p5 p6 p7 : Pos} (hS : X.Ok → GenS2 X.env scope "node" "around") (hfr : (("number" : Str), NameKind.free) ∈ scope.names) (hfk0 : scope.names.lookup ("number" : Str) = some .free) (hN : X.N[1]? = some ("number" : Str)) (hX : X.env.scope.names.lookup ("number" : Str) = some .cell)
    (hPT : ∀ H, Tb T H → ∃ ps, H P = some (.tbl ps)) (hr : X.A.units + 200 < cLine) (hi : PE X iter te) :
    PIt X T P (.Compare (.Name "node" p1) [.Eq] [.Tuple [.Constant (.str "var") j1 p2, .BinOp (.Name "number" p3) .Add (.Name "around" p4) p5] k6 p6] p7) "node" "around" scope iter
      (fun σ H R => σ[1]? = some (some (.int k)) ∧ te σ H fun v H1 => ∃ l xs L, v = .ref l ∧ H1 l = some (.lst xs) ∧ DxA H1 xs (L.map encP) ∧ (∀ p ∈ L, TmOk p.1 ∧ dep p.1 ≤ 60) ∧ Tb T H1 ∧ R (byP (uvP k) L) L.length H1) := by
  refine ⟨fun pins s σ H R I h => ?_⟩
  obtain ⟨hσ, h⟩ := h
  refine thn (hi.run pins s σ H _ I h) fun xv s1 ⟨v, H1, I1, r1, l, xs, L, ev, hl, hxs, hL, hT, hR⟩ => ?_
  subst ev
  obtain rfl : xv = Value.ref l := r1
  obtain ⟨hz, its, n, rv, ho⟩ := (show ObjOk X.prog X.w H1 s1.heap l (.lst xs) from I1.hok l _ hl)
  have hlen : its.length = L.length := by rw [← rv.length, hxs.length, List.length_map]
  have S := hS I1.ok
  -- the cell of number
  obtain ⟨m1, hn1, hlk⟩ := I1.loc
  obtain ⟨un, rn, lk⟩ := hlk 1 "number" (.int k) hN hσ (.inr (.inl hX))
  obtain ⟨tn, rfl⟩ := rn
  have hcell : ∃ c, X.env.cells.lookup ("number" : Str) = some c ∧ s1.heap.IsCell c (some (.int k tn)) := by
    rcases lk with ⟨z, _⟩ | ⟨_, c, h1, h2⟩
    · have z : X.env.scope.names.lookup ("number" : Str) = some .local := z
      rw [hX] at z
      cases z
    · exact ⟨c, h1, h2⟩
  obtain ⟨c, hc1, hc2⟩ := hcell
  have hclo : (cloFrom X.env.cells scope.names []).lookup ("number" : Str) = some c := NdefX.clo_has S.free hfr hc1
  have key : ∀ j, ∃ (a : Addr) (vv : Array Value), (∃ va vb, vv = #[va, vb]) ∧ (j < its.length → its[j]? = some (.ref a) ∧ s1.heap.IsTuple a vv ∧ ∃ p va tk x, L[j]? = some p ∧ vv = #[va, .int p.2 tk] ∧ RelV x va ∧ Dx H1 x (enc p.1)) := by
    intro j
    by_cases hj : j < its.length
    · obtain ⟨p, hp⟩ : ∃ p, L[j]? = some p := ⟨_, List.getElem?_eq_getElem (by omega)⟩
      obtain ⟨x, hx, hdx⟩ := hxs.get (i := j) (d := encP p) (by rw [List.getElem?_map, hp]; rfl)
      obtain ⟨u, hu, ru⟩ := rv.get hx
      cases hdx with
      | @tup a ys _ ha hys =>
      obtain rfl : u = Value.ref a := ru
      obtain ⟨y1, y2, rfl, hy1, hy2⟩ := dxA2 hys
      cases hy2
      obtain ⟨_, its2, rv2, ht⟩ := (show ObjOk X.prog X.w H1 s1.heap a (.tup [y1, .int p.2]) from I1.hok a _ ha)
      cases rv2 with
      | cons q1 q2 =>
      cases q2 with
      | cons q3 q4 =>
      cases q4
      obtain ⟨tk, rfl⟩ := q3
      exact ⟨a, _, ⟨_, _, rfl⟩, fun _ => ⟨hu, ht, p, _, tk, y1, hp, rfl, q1, hy1⟩⟩
    · exact ⟨0, #[.none, .none], ⟨_, _, rfl⟩, fun h => absurd h hj⟩
  let Ts : Nat → Addr := fun j => Classical.choose (key j)
  let vals : Nat → Array Value := fun j => Classical.choose (Classical.choose_spec (key j))
  have hk2 : ∀ j, (∃ va vb, vals j = #[va, vb]) := fun j => (Classical.choose_spec (Classical.choose_spec (key j))).1
  have hk3 : ∀ j, j < its.length → its[j]? = some (.ref (Ts j)) ∧ s1.heap.IsTuple (Ts j) (vals j) ∧ ∃ p va tk x, L[j]? = some p ∧ vals j = #[va, .int p.2 tk] ∧ RelV x va ∧ Dx H1 x (enc p.1) := fun j hj => (Classical.choose_spec (Classical.choose_spec (key j))).2 hj
  have hll : l < s1.heap.objs.size := Heap.lt_size ho
  have hTl : ∀ j, j < its.length → Ts j < s1.heap.objs.size := fun j hj => by
    obtain ⟨o, ho, _⟩ := (hk3 j hj).2.1
    exact Heap.lt_size ho
  have hsz : its.toArray.size = its.length := by simp
  obtain ⟨ps, hP⟩ := hPT _ hT
  have hPs : s1.heap.get? P = some { cls := .none, data := .fields ps } := I1.hok P _ hP
  refine wpAny_pyIter_list (items := its.toArray) ⟨_, ho, rfl, n, rfl⟩ ?_
  have hkp : ∀ b o, s1.heap.get? b = some o → (s1.heap.push { cls := .type "list_iterator", data := .fields #[.ref l, .int 0 0] }).get? b = some o := fun b o e => Heap.get?_push_of_some _ e
  have WU : ∀ A' : Around, A'.handled = none → WalksU X.prog X.w A' s1.heap.objs.size (s1.heap.objs.size :: l :: (List.range its.toArray.size).map Ts) [s1.heap.objs.size] L.length (fun i v => i < L.length ∧ v = vals i) _ _ := fun A' hA => by
    have q := (WalksU.listOfTuples (prog := X.prog) (w := X.w) hA s1.heap.objs.size l (Nat.ne_of_lt hll) its.toArray Ts vals (fun j hj => by rw [hsz] at hj; rw [List.getElem?_toArray]; exact (hk3 j hj).1) (fun j hj => by rw [hsz] at hj; exact Nat.ne_of_lt (hTl j hj))).bound
    rw [hsz, hlen] at q
    rw [hsz, hlen]
    exact q
  have neP : ∀ a, ((∃ xs, H1 a = some (.tup xs)) ∨ ∃ xs, H1 a = some (.lst xs)) → a ≠ P := fun a h z => by
    rw [z, hP] at h
    rcases h with ⟨xs, h⟩ | ⟨xs, h⟩ <;> cases h
  refine ⟨byP (uvP k) L, L.length, H1, s1, ⟨I1, hT, s1.heap.push { cls := .type "list_iterator", data := .fields #[.ref l, .int 0 0] }, s1.toks, s1.heap.objs.size, _, [s1.heap.objs.size], _, _, _, rfl, rfl, hkp, ?_, ?_, WU, ?_, ?_, ?_, ?_, ?_⟩, hR⟩
  · intro b hb
    rw [List.mem_singleton.mp hb]
    exact Nat.le_refl _
  · rw [Heap.size_push]; exact Nat.le_succ _
  · rintro i _ ⟨_, rfl⟩
    exact hk2 i
  · refine ⟨⟨_, Heap.get?_push_size _ rfl, rfl, rfl⟩, ⟨_, hkp _ _ ho, rfl, n, rfl⟩, fun j hj => ?_⟩
    obtain ⟨o, e1, e2⟩ := (hk3 j (by omega)).2.1
    exact ⟨o, hkp _ _ e1, e2⟩
  · intro b hb
    rw [Heap.size_push]
    rcases List.mem_cons.mp hb with e | hb
    · rw [e]; exact Nat.lt_succ_self _
    rcases List.mem_cons.mp hb with e | hb
    · rw [e]; exact Nat.lt_succ_of_lt hll
    · obtain ⟨j, hj, e⟩ := List.mem_map.mp hb
      rw [← e]
      exact Nat.lt_succ_of_lt (hTl j (by have := List.mem_range.mp hj; omega))
  · intro hb
    have hPlt := Heap.lt_size hPs
    rcases List.mem_cons.mp hb with e | hb
    · rw [← e] at hPlt; exact Nat.lt_irrefl _ hPlt
    rcases List.mem_cons.mp hb with e | hb
    · rw [e, hl] at hP; cases hP
    · obtain ⟨j, hj, e⟩ := List.mem_map.mp hb
      obtain ⟨o, e1, e2, n, e3⟩ := (hk3 j (by have := List.mem_range.mp hj; omega)).2.1
      rw [e, hPs] at e1
      cases e1
      cases e3
  · intro A' E' i va vb t m₂ C code bi hA hD hU hPt hn hma hmb hk
    obtain ⟨hi, hv⟩ := hPt
    obtain ⟨_, _, p, va', tk, x, hp, hv2, rx, hx⟩ := hk3 i (by omega)
    rw [hv2] at hv
    have ea : va = va' := by injection hv with e; injection e
    have eb : vb = .int p.2 tk := by injection hv with e; injection e with _ e; injection e
    subst ea
    subst eb
    rw [byP_some hp]
    have hpL := hL p (List.mem_of_getElem? hp)
    have kp : ∀ b o, b ≠ P → s1.heap.get? b = some o → t.heap.get? b = some o := fun b o hb e => hk b o hb (fun z => by
      rw [List.mem_singleton.mp z] at e
      exact Nat.lt_irrefl _ (Heap.lt_size e)) (hkp b o e)
    have hcP : c ≠ P := fun z => by
      obtain ⟨o, e1, e2⟩ := hc2
      rw [z, hPs] at e1
      cases e1
      cases e2
    have hct : t.heap.IsCell c (some (.int k tn)) := by
      obtain ⟨o, e1, e2⟩ := hc2
      exact ⟨o, kp c o hcP e1, e2⟩
    obtain ⟨as, hra⟩ := Dx.reads (h' := t.heap) I1.hok (fun a o ha e => kp a o (neP a ha) e) (enc p.1) x va hx rx
    have hkind : (genEnv scope (cloFrom X.env.cells scope.names []) C code bi X.env).scope.kind = .function := S.kind
    refine wpAny_Compare1 (wpAny_Name (wpAny_loadName_local hkind S.la hn hma ?_) (by decide)) (by rfl)
    refine wpAny_Tuple_spliced ?_
    show wpAny (model X.prog X.w) A' (spliced [(false, eval (.Constant (.str "var") j1 p2) (genEnv scope (cloFrom X.env.cells scope.names []) C code bi X.env)), (false, eval (.BinOp (.Name "number" p3) .Add (.Name "around" p4) p5) (genEnv scope (cloFrom X.env.cells scope.names []) C code bi X.env))]) _ _ t
    refine Calls.spliced_cons (Calls.Constant_str ?_)
    refine Calls.spliced_cons (wpAny_BinOp ?_)
    have hfk : (genEnv scope (cloFrom X.env.cells scope.names []) C code bi X.env).kindOf ("number" : Str) = some .free := hfk0
    refine wpAny_Name (wpAny_loadName_free hkind hfk hclo hct ?_ (by decide)) (by decide)
    refine wpAny_Name (wpAny_loadName_local hkind S.lb hn hmb ?_) (by decide)
    refine add_int ?_
    refine Calls.spliced_nil ?_
    refine ⟨(by show 2 ≤ sizeLine; decide), ?_⟩
    have kpush : ∀ (o : Obj) b u, t.heap.get? b = some u → (t.heap.push o).get? b = some u := fun o b u e => Heap.get?_push_of_some _ e
    refine SeqAt.compareEq_shaped (Reads.keeps (kpush _) hra) (Reads.tuple (Heap.get?_push_size _ rfl) rfl rfl (ReadsAll.cons (Reads.str _ _) (ReadsAll.cons (Reads.int _ _) ReadsAll.nil))) (shaped_enc hpL.1 (by omega)) ?_ (by omega) ⟨rfl, ?_⟩
    · exact shaped_tup (n := 0) (fun d hd => by
        rcases List.mem_cons.mp hd with e | hd
        · rw [e]; exact ⟨lay_var, Nat.le_refl _⟩
        · rw [List.mem_singleton.mp hd]; exact ⟨rfl, Nat.le_refl _⟩) (by decide)
    · exact ⟨_, _, rfl, fun b o e => kpush _ b o e⟩
end
end K1
namespace K1
open PySem PySem.Spec PyProof.Rows L2
theorem tbl_hu {T : Tbl} {P : Addr} {q : Str} (h : (P, q) ∈ T.list) : ∀ p ∈ T.list, p.1 = P → p.2 = q := fun p hp e => by
  have nd : (T.list.map (·.1)).Nodup := T.nd
  obtain ⟨a, b⟩ := p
  simp only at e
  subst e
  have key : ∀ {l : List (Addr × Str)} {a : Addr} {x y : Str}, (l.map (·.1)).Nodup → (a, x) ∈ l → (a, y) ∈ l → x = y := by
    intro l
    induction l with
    | nil => intro a x y _ h; cases h
    | cons p l ih =>
      intro a x y nd h1 h2
      rw [List.map_cons, List.nodup_cons] at nd
      rcases List.mem_cons.mp h1 with e1 | h1
      · rcases List.mem_cons.mp h2 with e2 | h2
        · exact congrArg Prod.snd (e1.trans e2.symm)
        · exact absurd (List.mem_map.mpr ⟨_, h2, by rw [← e1]⟩) nd.1
      · rcases List.mem_cons.mp h2 with e2 | h2
        · exact absurd (List.mem_map.mpr ⟨_, h1, by rw [← e2]⟩) nd.1
        · exact ih nd.2 h1 h2
  exact key nd hp h
theorem tb_tbl {T : Tbl} {P : Addr} {q : Str} (h : (P, q) ∈ T.list) {H : Hp} (t : Tb T H) : ∃ ps, H P = some (.tbl ps) := by
  obtain ⟨ps, e, _⟩ := t _ h
  exact ⟨ps, e⟩
section
variable {P : Program} {w : World} {K : PySem.W.Frag} {mg : Str → Option Value} {base : Heap} {T : Tbl} {f fn : Addr} {fd fnd : FuncData} {cdU : Addr}
theorem ok_uv (F : FunC K "uses_var" "uses_var" sUv cdU f fd) (GN : FnOk P w K mg base CX0 2 fn fnd ["term"] (spF T rNodes)) (CN : Cal K mg "nodes" fn fnd ["term"]) (TB : LamX.TabB base mg cdU T.aU) (many : mg "any" = none) :
    FnOk P w K mg base CX0 4 f fd ["term", "number"] (spF T rUv) := by
  have hm : (T.aU, qU) ∈ T.list := by simp [Tbl.list]
  refine mkFC F scUv (fun ds r ⟨d, m, e, _⟩ => by rw [e]; rfl) (fun A outer s H vs E ds r hr hR hd hT => ?_)
  obtain ⟨t, k, rfl, hc, ok, dp, rfl⟩ := hR
  obtain ⟨v0, v1, rfl, hv, hv1⟩ := dxA2 hd
  cases hv1
  have hr2 : Room 2 (A.deeper (envOfC "uses_var" (defScope sUv) s.heap.objs.size f (.ref cdU))) := hr.mono (by omega)
  have hun : (A.deeper (envOfC "uses_var" (defScope sUv) s.heap.objs.size f (.ref cdU))).units + 200 < cLine := by have := hr.un; omega
  have gs : ∀ ok : (cxOf CX0 P w K mg base ["term", "number"] "uses_var" (defScope sUv) f (.ref cdU) A outer s H E).nox.Ok, GenS2 (cxOf CX0 P w K mg base ["term", "number"] "uses_var" (defScope sUv) f (.ref cdU) A outer s H E).nox.env
      { kind := .function, names := [((".0" : Str), NameKind.local), ("node", NameKind.local), ("around", NameKind.local), ("number", NameKind.free)], isGenerator := true, isCoroutine := false } "node" "around" := fun ok =>
    ⟨rfl, rfl, by decide +kernel, rfl, rfl, rfl, fun y hy e => by
      simp only [List.mem_cons, List.not_mem_nil, or_false] at hy
      rcases hy with rfl | rfl | rfl | rfl
      · cases e
      · cases e
      · cases e
      · exact ok.has _ (.inl rfl)⟩
  refine ⟨_, pss_one (ps_ret (pe_anyP (T := T) (P := T.aU) (q := qU) hr rfl many TB rfl gs (by decide +kernel) (show (("uses_var" : Str) ++ ".<locals>.") ++ "<genexpr>" = qU by decide +kernel) hm (tbl_hu hm) (fun _ => rfl)
    (pit_uv (T := T) (k := k) gs (by decide +kernel) rfl rfl rfl (fun H h => tb_tbl hm h) hun (pe_call GN hr2 rfl CN.m CN.kp CN.b .nil pass0 (pa_cons (pv 0) pa_nil))))), ?_⟩
  intro D q
  refine ⟨rfl, ?_⟩
  refine ed_call (T := T) (dd := []) (ds := [enc t]) hT (eda_cons (ed_var rfl hv) eda_nil) (fun _ => .nil) ⟨t, rfl, hc, rfl⟩ H (Gr.refl _) _ fun v4 H4 g4 hv4 => ?_
  cases hv4 with
  | @lst a xs _ ha hxs =>
  refine ⟨a, xs, nd t 0, rfl, ha, hxs, fun p hp => ?_, g4.2 hT, fun H2 g2 => ?_⟩
  · have := nd_ok t 0 ok p hp
    exact ⟨this.1, by omega⟩
  · rw [any_byP]
    exact q _ _ (g4.trans g2) (.bl _)
end
end K1
/-! xs += a tuple -/
namespace PySem
/-- a list and a tuple, as they stand -/
abbrev k1L (items : Array Value) (n : Nat) : Obj := { cls := .type "list", dict := none, data := .seq items n, slots := #[] }
abbrev k1T (items : Array Value) (n : Nat) (od : Option Addr) (sl : Array (Option Value)) : Obj := { cls := .type "tuple", dict := od, data := .seq items n, slots := sl }
theorem k1_iadd_tuple {l b : Addr} {xs ys : Array Value} {n m : Nat} {od : Option Addr} {sl : Array (Option Value)} (short : ¬(!xs.isEmpty && Builtin.List.listTooLong (xs.size + ys.size)) = true) (fit : xs.size ≤ sizeLine) (fits : xs.size + ys.size ≤ sizeLine + 1) :
    Meets (Builtin.«list.__iadd__» ⟨[.ref l, .ref b], []⟩) (fun _ R s => s.heap.get? l = some (k1L xs n) ∧ s.heap.get? b = some (k1T ys m od sl) ∧
      R (.ok (.ret (.ref l))) { s with heap := s.heap.update l (Obj.mapSeq fun x => x ++ ys), toks := s.toks }) := by
  refine .of_wp fun _ _ A R ⟨hp, g, d, tk, os⟩ ⟨atL, atB, q⟩ => ?_
  have room : (xs ++ ys).size ≤ sizeLine + 1 := Array.size_append ▸ fits
  have u1 := AutoSeq1.idx_int
  have u2 := AutoSeq1.sub_tuple_tuple
  have u3 := AutoSeq1.sub_list_list
  have u4 := AutoSeq1.sub_tuple_list
  have u5 := AutoSeq1.sub_list_tuple
  wp_walk using (wpAny_updateSeq atL rfl (hz := fit) (_hz' := room)), AutoSeq1.wpAny_loadPart' atL, AutoSeq1.wpAny_loadPart' atB
  exact ⟨_, rfl, q⟩
section
variable {M : Model} {A : Around} {E : Value → Shared → Prop} {s : Shared} {a b : Value}
theorem k1_op1_none {Q : Option Value → Shared → Prop} (isL : s.TypeIs a "list") (isT : s.TypeIs b "tuple") (q : Q none s) : wpAny M A (binaryOp1 "add" a b) Q E s := by
  simp only [binaryOp1]
  have differ : (Value.type "list" == Value.type "tuple") = false := by decide +kernel
  refine wpAny_bind (wpAny_typeOf isL ?_)
  refine wpAny_bind (wpAny_typeOf isT ?_)
  refine wpAny_bind (wpAny_of_eq noFill_list_add ?_)
  simp only [differ, Bool.false_eq_true, if_false]
  refine wpAny_bind (wpAny_of_eq noFill_tuple_add ?_)
  simp only [pure_bind, Bool.false_and, Bool.false_eq_true, if_false]
  exact wpAny_pure q
theorem k1_slotI : typeLookup (.type "list") (dunderI "add") = pure (some (.builtin "list.__iadd__")) :=
  F.slot_list_iadd.lookup
theorem k1_seqI : isSeqSlot (some (.builtin "list.__iadd__")) = true :=
  by decide +kernel
theorem k1_fillI : fillsInplaceSlot (.type "list") "add" (Operator.Add == .Add) = pure false := by
  have e : (pure ((some (Value.builtin "list.__iadd__")).isSome && !isSeqSlot (some (.builtin "list.__iadd__"))) : Sem Bool) = pure false := k1_seqI ▸ rfl
  unfold fillsInplaceSlot
  change (typeLookup (.type "list") (dunderI "add") >>= _) = _
  exact k1_slotI ▸ e
/-- the way of += to the list's own -/
theorem k1_roadT {Q : Value → Shared → Prop} (isL : s.TypeIs a "list") (isT : s.TypeIs b "tuple") (q : wpAny M A (call (.builtin "list.__iadd__") [a, b]) Q E s) : wpAny M A (inplaceOp .Add a b) Q E s := by
  unfold inplaceOp
  refine wpAny_holding (wpAny_bind (wpAny_typeOf isL (wpAny_bind (wpAny_of_eq k1_fillI ?_))))
  change wpAny M A (if false = true then _ else _) Q E s
  rw [if_neg (by decide)]
  refine wpAny_bind (k1_op1_none isL isT (wpAny_bind (wpAny_of_eq (seqSlot_of k1_slotI k1_seqI) ?_)))
  exact wpAny_bind (wpAny_rule q)
end
end PySem
namespace K1
open PySem PySem.Spec PyProof.Rows L2
def rExtT (K : PySem.W.Frag) : R2 := fun x y H Q => ∃ l b xs ys, x = .ref l ∧ y = .ref b ∧ H l = some (.lst xs) ∧ SqT K H b ys ∧ xs.length + ys.length ≤ sizeLine ∧ Q (.ref l) (upd H l (.lst (xs ++ ys)))
theorem iop_extT {X : Cx} : OpR X (inplaceOp .Add) (rExtT X.K) := fun pins s σ H x y v u Q I rx ry ⟨l, b, xs, ys, ex, ey, atL, atB, room, q⟩ => by
  subst ex ey
  cases rx
  cases ry
  obtain ⟨_, us, n, rel, len, e⟩ := I.lstM atL
  obtain ⟨ws, rel2, ⟨⟨cls, od, dat, sl⟩, e2, ec, m, ed⟩, _⟩ := I.tuple atB
  change cls = .type "tuple" at ec
  change dat = .seq ws.toArray m at ed
  subst ec ed
  have len2 : ys.length = ws.length := rel2.length
  have both : us.toArray.size + ws.toArray.size ≤ sizeLine := by simp only [List.size_toArray]; omega
  have one : us.toArray.size ≤ sizeLine := by simp only [List.size_toArray]; omega
  have M := PySem.k1_iadd_tuple (l := l) (b := b) (n := n) (m := m) (od := od) (sl := sl) (by rw [notLongL both, Bool.and_false]; decide) one (Nat.le_succ_of_le both)
  refine PySem.k1_roadT ⟨_, e, rfl⟩ ⟨_, e2, rfl⟩ (call_meets PySem.F.slot_list_iadd ⟨_, e, rfl⟩ PySem.F.entry_list_iadd (PySem.F.args_list_iadd_2 _ _) M ⟨e, e2, ?_⟩)
  exact ⟨.ref l, _, I.lset (its' := us ++ ws) (t' := s.toks) atL e (by simp) (rel.append rel2) (by rw [List.length_append]; omega), rfl, q⟩
end K1
namespace K1
open PySem PySem.Spec PyProof.Rows L2
/-! ### what stands where a number, a level, a name may -/
def isStrD : PyData → Bool
  | .str _ => true
  | _ => false
def isNumD : PyData → Bool
  | .int i => decide (0 ≤ i)
  | _ => false
def leD : PyData → Bool
  | .int i => decide (i ≤ 12)
  | _ => true
def tyD : PyData → String
  | .none => "NoneType"
  | .bool _ => "bool"
  | .int _ => "int"
  | .str _ => "str"
  | .list _ => "list"
  | .tuple _ => "tuple"
  | .dict _ => "dict"
theorem tyx_dx {K : PySem.W.Frag} {H : Hp} {v : V} {d : PyData} (h : Dx H v d) : TyX K H v (.type (tyD d)) := by
  cases h with
  | non => exact .base .non
  | bl b => exact .base (.bl b)
  | int i => exact .base (.int i)
  | str x => exact .base (.str x)
  | lst h1 h2 => exact .base (.lst h1)
  | tup h1 h2 => exact .base (.tup h1)
def isTupD : PyData → Bool
  | .tuple _ => true
  | _ => false
def isIntD : PyData → Bool
  | .int _ => true
  | .bool _ => true
  | _ => false
def isBoolD : PyData → Bool
  | .bool _ => true
  | _ => false
theorem kb_tup (d : PyData) : kitB (tyD d) "tuple" = some (isTupD d) := by
  have h : (["NoneType", "bool", "int", "str", "list", "dict"] : List String).all (fun x => decide (kitB x "tuple" = some false)) = true ∧ kitB "tuple" "tuple" = some true := by decide +kernel
  simp only [List.all_cons, List.all_nil, Bool.and_true, Bool.and_eq_true, decide_eq_true_eq] at h
  obtain ⟨⟨a, b, c, e, f, g⟩, i⟩ := h
  cases d <;> assumption
theorem kb_str (d : PyData) : kitB (tyD d) "str" = some (isStrD d) := by
  have h : (["NoneType", "bool", "int", "tuple", "list", "dict"] : List String).all (fun x => decide (kitB x "str" = some false)) = true ∧ kitB "str" "str" = some true := by decide +kernel
  simp only [List.all_cons, List.all_nil, Bool.and_true, Bool.and_eq_true, decide_eq_true_eq] at h
  obtain ⟨⟨a, b, c, e, f, g⟩, i⟩ := h
  cases d <;> assumption
theorem kb_int (d : PyData) : kitB (tyD d) "int" = some (isIntD d) := by
  have h : (["NoneType", "str", "tuple", "list", "dict"] : List String).all (fun x => decide (kitB x "int" = some false)) = true ∧ kitB "int" "int" = some true ∧ kitB "bool" "int" = some true := by decide +kernel
  simp only [List.all_cons, List.all_nil, Bool.and_true, Bool.and_eq_true, decide_eq_true_eq] at h
  obtain ⟨⟨a, b, c, e, f⟩, i, j⟩ := h
  cases d <;> assumption
theorem kb_bool (d : PyData) : kitB (tyD d) "bool" = some (isBoolD d) := by
  have h : (["NoneType", "str", "tuple", "list", "dict", "int"] : List String).all (fun x => decide (kitB x "bool" = some false)) = true ∧ kitB "bool" "bool" = some true := by decide +kernel
  simp only [List.all_cons, List.all_nil, Bool.and_true, Bool.and_eq_true, decide_eq_true_eq] at h
  obtain ⟨⟨a, b, c, e, f, g⟩, i⟩ := h
  cases d <;> assumption
section
variable {T : Tbl} {K : PySem.W.Frag} {σ : L2.St} {H H' : Hp} {te ta tb : TE} {d e r : PyData}
theorem ed_isi {ty : String} {b : Bool} (h : ED T te σ H d) (hk : kitB (tyD d) ty = some b) : ED T (tCB (rIsi K) (tCons te (tCons (tC (.ty ty)) tNil))) σ H (.bool b) := fun H1 g Q q =>
  h H1 g _ fun v H2 g2 hv => ⟨v, .ty ty, _, _, b, rfl, .ty ty, tyx_dx hv, kit_ty hk, q _ H2 g2 (.bl b)⟩
theorem et_truT {ds : List PyData} (h : ED T te σ H (.tuple ds)) : ET T (fun σ H Q => te σ H fun x H' => ∃ k, TruV K x H' k ∧ Q k H') σ H (!ds.isEmpty) := fun H1 g Q q => h H1 g _ fun v H2 g2 hv => by
  cases hv with
  | tup h1 h2 =>
    refine ⟨!ds.isEmpty, .inr (.inl ⟨_, SqT.of h1, ?_⟩), q H2 g2⟩
    cases h2 <;> rfl
/-- a value is a number -/
theorem ed_num {t1 t2 t3 : TE} (h1 : ED T t1 σ H d) (h2 : ED T t2 σ H d) (h3 : ED T t3 σ H d) :
    ED T (tAndV (tCB (rIsi K) (tCons t1 (tCons (tC (.ty "int")) tNil))) (tAndV (tNotV (tCB (rIsi K) (tCons t2 (tCons (tC (.ty "bool")) tNil)))) (tOp (rI0 fun i j => .bl (decide (j ≤ i))) t3 (tC (.int 0))))) σ H (.bool (isNumD d)) := by
  by_cases hi : isIntD d = true
  · by_cases hb : isBoolD d = true
    · have : isNumD d = (true && (false && true)) := by cases d <;> first | rfl | cases hb | cases hi
      rw [this]
      exact ed_andV (ed_is (ed_isi h1 (kb_int d)) (by rw [hi])) fun _ => ed_andV (b := true) (ed_is (ed_notV (ed_isi h2 (kb_bool d))) (by rw [hb]; rfl)) fun z => nomatch z
    · obtain ⟨i, rfl⟩ : ∃ i, d = .int i := by cases d <;> first | exact ⟨_, rfl⟩ | exact absurd rfl hb | cases hi
      have : isNumD (.int i) = (true && (true && decide ((0 : Int) ≤ i))) := rfl
      rw [this]
      exact ed_andV (ed_isi h1 (kb_int _)) fun _ => ed_andV (ed_notV (ed_isi h2 (kb_bool _))) fun _ => ed_ge h3 ed_int
  · have hf : isIntD d = false := by simpa using hi
    have : isNumD d = (false && true) := by cases d <;> first | rfl | cases hf
    rw [this]
    exact ed_andV (b := true) (ed_is (ed_isi h1 (kb_int d)) (by rw [hf])) fun z => nomatch z
end
abbrev sNum : Stmt := topS 9
theorem scNum : FnScope ["value"] ["value"] (defScope sNum) := ⟨rfl, rfl, rfl, by decide +kernel, rfl, by decide +kernel, by decide +kernel⟩
abbrev sLev : Stmt := topS 10
theorem scLev : FnScope ["value"] ["value"] (defScope sLev) := ⟨rfl, rfl, rfl, by decide +kernel, rfl, by decide +kernel, by decide +kernel⟩
def rNum : List PyData → PyData → Prop := fun ds r => ∃ d, ds = [d] ∧ r = .bool (isNumD d)
def rLev : List PyData → PyData → Prop := fun ds r => ∃ d, ds = [d] ∧ r = .bool (isNumD d && leD d)
section
variable {P : Program} {w : World} {K : PySem.W.Frag} {mg : Str → Option Value} {base : Heap} {T : Tbl} {f fn : Addr} {fd fnd : FuncData} {t3 : Tok}
theorem ok_num (F : Fun K "is_number" "is_number" sNum f fd) (m1 : mg "isinstance" = none) (m2 : mg "int" = none) (m3 : mg "bool" = none) : FnOk P w K mg base CX0 1 f fd ["value"] (spF T rNum) := by
  refine mkF F scNum (fun ds r ⟨d, e, _⟩ => by rw [e]; rfl) (fun cdv A outer s H vs E ds r hr hR hd hT => ?_)
  obtain ⟨d, rfl, rfl⟩ := hR
  obtain ⟨v0, rfl, hv⟩ := dxA1 hd
  refine ⟨_, pss_one (ps_ret (pe_and (pe_callB call_isi rfl m1 PyProof.Rows.boot_isinstance (pa_cons (pv 0) (pa_cons (pe_bltn (v := .ty "int") rfl m2 boot_int rfl) pa_nil)))
    (pe_and (pe_not (pe_callB call_isi rfl m1 PyProof.Rows.boot_isinstance (pa_cons (pv 0) (pa_cons (pe_bltn (v := .ty "bool") rfl m3 (show bootBuiltins "bool" = some (.type "bool") by decide +kernel) rfl) pa_nil))))
    (pe_one (pe_cmpR op_ge (pv 0) pe_int (nomark _)))))), ?_⟩
  exact rd_ret (ed_num (ed_var rfl hv) (ed_var rfl hv) (ed_var rfl hv))
theorem ok_lev (F : Fun K "is_level" "is_level" sLev f fd) (GN : FnOk P w K mg base CX0 1 fn fnd ["value"] (spF T rNum)) (CN : Cal K mg "is_number" fn fnd ["value"]) (m3 : mg "MOST_LEVEL" = some (.int 12 t3)) : FnOk P w K mg base CX0 2 f fd ["value"] (spF T rLev) := by
  refine mkF F scLev (fun ds r ⟨d, e, _⟩ => by rw [e]; rfl) (fun cdv A outer s H vs E ds r hr hR hd hT => ?_)
  obtain ⟨d, rfl, rfl⟩ := hR
  obtain ⟨v0, rfl, hv⟩ := dxA1 hd
  refine ⟨_, pss_one (ps_ret (pe_and (pe_call GN hr rfl CN.m CN.kp CN.b .nil pass0 (pa_cons (pv 0) pa_nil)) (pe_one (pe_cmpR op_le (pv 0) (pe_glob (v := .int 12) rfl m3 ⟨_, rfl⟩) (nomark _))))), ?_⟩
  refine rd_ret (ed_andV (ed_call (dd := []) hT (eda_cons (ed_var rfl hv) eda_nil) (fun _ => .nil) ⟨d, rfl, rfl⟩) fun h => ?_)
  obtain ⟨i, rfl⟩ : ∃ i, d = .int i := by cases d <;> first | exact ⟨_, rfl⟩ | cases h
  exact ed_le (ed_var rfl hv) ed_int
end
end K1
namespace K1
open PySem PySem.Spec PyProof.Rows L2
/-! ### a row of terms, their parts -/
abbrev bwl : List Str := ["pi", "lam", "let"]
def at0 (rest : List PyData) : PyData := rest.getD 0 .none
def at1 (rest : List PyData) : PyData := rest.getD 1 .none
def levD (d : PyData) : Bool := isNumD d && leD d
def goodD (z : Str) (rest : List PyData) : Bool :=
  if z = "app" then decide (rest.length = 2)
  else if z = "const" then decide (rest.length = 1) && isStrD (at0 rest)
  else if z = "var" then decide (rest.length = 1) && isNumD (at0 rest)
  else if z ∈ bwl then decide (rest.length = if z = "let" then 4 else 3) && isStrD (at0 rest)
  else if z = "sort" then decide (rest.length = 1) && levD (at0 rest)
  else decide (z = "rec") && (decide (rest.length = 2) && (isStrD (at0 rest) && levD (at1 rest)))
def isnode : PyData → Bool
  | .tuple (.str z :: rest) => goodD z rest
  | _ => false
def kidsD : PyData → List PyData
  | .tuple (.str z :: rest) => if z = "app" then rest else if z ∈ bwl then rest.drop 1 else []
  | _ => []
theorem kids_three {d : PyData} (h : isnode d = true) : (kidsD d).length ≤ 3 := by
  unfold isnode at h
  split at h
  · rename_i z rest
    unfold goodD at h
    show (if z = "app" then rest else if z ∈ bwl then rest.drop 1 else []).length ≤ 3
    by_cases h1 : z = "app"
    · rw [if_pos h1] at h ⊢
      have := of_decide_eq_true h
      omega
    · rw [if_neg h1] at h ⊢
      by_cases h2 : z ∈ bwl
      · rw [if_pos h2]
        have n1 : z ≠ "const" := fun e => by rw [e] at h2; exact absurd h2 (by decide)
        have n2 : z ≠ "var" := fun e => by rw [e] at h2; exact absurd h2 (by decide)
        rw [if_neg n1, if_neg n2, if_pos h2, Bool.and_eq_true] at h
        have := of_decide_eq_true h.1
        rw [List.length_drop]
        split at this <;> omega
      · rw [if_neg h2]
        exact Nat.zero_le _
  · cases h
/-- no tuple of more than a hundred -/
def nodeable (d : PyData) : Prop := ∀ es, d = .tuple es → es.length ≤ 100
abbrev sCp : Stmt := topS 12
theorem scCp : FnScope ["row", "found", "one", "word", "many", "is_good"] ["row"] (defScope sCp) := ⟨rfl, rfl, rfl, by decide +kernel, rfl, by decide +kernel, by decide +kernel⟩
def spCp (T : Tbl) (C : Addr) : Sp := fun vs H Q E => ∃ (ds : List PyData) (v : V), vs = [v] ∧ Dx H v (.list ds) ∧ Tb T H ∧ ds.length ≤ 20000 ∧ (∀ d ∈ ds, nodeable d) ∧
  (ds.all isnode = true → ∀ v' H', Gr T H H' → Dx H' v' (.list (ds.flatMap kidsD)) → Q v' H') ∧ (ds.all isnode = false → ∀ H', Gr T H H' → E (.ref C) none H')
section
variable {T : Tbl} {K : PySem.W.Frag} {σ : L2.St} {H H' : Hp} {te ta tb : TE} {d e r : PyData}
/-- xs += t[c:] -/
theorem s_ext {i j : Nat} {l a : Addr} {xs zs : List V} {c : Int} {n : Nat} {D : Ends} (hl : σ[i]? = some (some (.ref l))) (hj : σ[j]? = some (some (.ref a))) (hH : H l = some (.lst xs)) (ha : H a = some (.tup zs)) (hc : c = (n : Int)) (hn : 0 < n) (hz : 0 < zs.length) (hs : xs.length + zs.length ≤ 16000000)
    (k : ∀ H1, Gr T H H1 → H1 l = some (.lst xs) → D.nx (σ.set i (some (.ref l))) (upd H1 l (.lst (xs ++ zs.drop n)))) : tAug i (tSl (rSlA K) (tVar j) (tPart (tC (.int c))) tNoPart) (rExtT K) D σ H := by
  refine ⟨_, hl, _, hj, c, rfl, ?_⟩
  refine ⟨a, zs, rfl, SqT.of ha, fun z => ?_, fun _ p hp => ?_⟩
  · exfalso
    rw [hc, HT.sIx_nat] at z
    have := z.1
    omega
  · have e1 : cutV zs (some c) none = zs.drop n := by
      unfold cutV
      rw [hc, HT.sIx_nat, HT.sIx_none]
      by_cases hnz : n ≤ zs.length
      · rw [Nat.min_eq_left hnz]
        exact List.take_of_length_le (by rw [List.length_drop]; exact Nat.le_refl _)
      · rw [Nat.min_eq_right (by omega), Nat.sub_self, List.take_zero, List.drop_eq_nil_of_le (by omega)]
    have g := Gr.new (T := T) (o := .tup (cutV zs (some c) none)) hp
    have h2 := g.lsts hH
    refine ⟨l, p, xs, zs.drop n, rfl, rfl, h2, by rw [← e1]; exact SqT.of upd_same, ?_, k _ g h2⟩
    rw [List.length_drop]
    have : (16000000 : Nat) ≤ sizeLine := by decide
    omega
end
def CpI (T : Tbl) (H : Hp) (pr lf : Addr) (ds : List PyData) (i : Nat) (σ : L2.St) (H' : Hp) : Prop := Gr T H H' ∧ (∃ c2 c3 c4 c5, σ = [some (.ref pr), some (.ref lf), c2, c3, c4, c5]) ∧ (ds.take i).all isnode = true ∧
  ∃ ws, H' lf = some (.lst ws) ∧ DxA H ws ((ds.take i).flatMap kidsD) ∧ ws.length ≤ 3 * i
theorem dxA_drop {H : Hp} : ∀ {vs : List V} {ds : List PyData} (n : Nat), DxA H vs ds → DxA H (vs.drop n) (ds.drop n)
  | _, _, 0, h => h
  | _, _, _ + 1, .nil => .nil
  | _, _, n + 1, .cons _ b => dxA_drop n b
theorem cp_tail {T : Tbl} {D : Ends} {σ : L2.St} {H7 : Hp} {g : Bool} {tr : TS} (h5 : σ[5]? = some (some (.bl g))) (hf : g = false → ∀ H8, Gr T H7 H8 → tr D σ H8) (ht : g = true → ∀ H8, Gr T H7 H8 → D.nx σ H8) : tIfS (tNot (tB (tVar 5))) tr tNext D σ H7 := by
  refine (et_not (T := T) (et_B (ed_var (d := .bool g) h5 (.bl g)))) _ (Gr.refl _) _ fun H8 g8 => ?_
  cases g with
  | true => exact iteF (ht rfl H8 g8)
  | false => exact iteT (hf rfl H8 g8)
section
variable {P : Program} {w : World} {K : PySem.W.Frag} {mg : Str → Option Value} {base : Heap} {T : Tbl} {f fl C : Addr} {fd fld : FuncData}
theorem ok_cp (F : Fun K "checked_parts" "checked_parts" sCp f fd) (X : TErr K mg C) (GL : FnOk P w K mg base CX0 2 fl fld ["value"] (spF T rLev)) (CL : Cal K mg "is_level" fl fld ["value"])
    (mi : mg "isinstance" = none) (mt : mg "tuple" = none) (ms : mg "str" = none) (mn : mg "int" = none) (mb : mg "bool" = none) (ml : mg "len" = none) : FnOk P w K mg base (L2.CX P w) 3 f fd ["row"] (spCp T C) := by
  refine F.okX scCp (fun vs H Q E ⟨d, v, e, _⟩ => by rw [e]; rfl) (fun cdv A outer s H vs Q E hr h => ?_)
  obtain ⟨ds, v0, rfl, hv, hT, hlen, hnod, hq, he⟩ := h
  refine ⟨_, pss_cons (ps_set (i := 1) scCp.nd rfl (.inl rfl) (pe_lst pa_nil)) (pss_cons (ps_for (passes_of rfl) rfl (pi_list (pv 0)) (pg_name (i := 2) scCp.nd rfl (.inl rfl)) (pss_cons (ps_if (PW.pt (pw_or (pt_not (pt_val (pe_callB call_isi rfl mi PyProof.Rows.boot_isinstance (pa_cons (pv 2) (pa_cons (pe_bltn (v := .ty "tuple") rfl mt PyProof.Rows.boot_tuple rfl) pa_nil))))) (pw_or (pt_not (pt_truth (pv 2) (by intro _; rfl))) (pw_or1 (pt_not (pt_val (pe_callB call_isi rfl mi PyProof.Rows.boot_isinstance (pa_cons (pxt 2) (pa_cons (pe_bltn (v := .ty "str") rfl ms PyProof.Rows.boot_str rfl) pa_nil))))))))) (pss_one (ps_raise rfl (takes_of rfl rfl rfl rfl) (pmk_own PySem.F.excBase_ValueError X.x X.g X.k (raises_own X.b X.t) rfl))) pss_nil) (pss_cons (ps_set (i := 3) scCp.nd rfl (.inl rfl) (pxt 2)) (pss_cons (ps_set (i := 4) scCp.nd rfl (.inl rfl) (pe_callB call_len_seq rfl ml boot_len (pa_cons (pv 2) pa_nil))) (pss_cons (ps_if (pt_cmpR op_eq (pv 3) pe_str (nomark _)) (pss_cons (ps_set (i := 5) scCp.nd rfl (.inl rfl) (pe_cmpR op_eq (pv 4) pe_int (nomark _))) (pss_one (ps_aug (i := 1) scCp.nd rfl (.inl rfl) (pe_slice sl_tupA (pv 2) (po_some pe_int) po_none) iop_extT))) (pss_one (ps_if (pt_cmpR op_eq (pv 3) pe_str (nomark _)) (pss_one (ps_set (i := 5) scCp.nd rfl (.inl rfl) (pe_and (pe_cmpR op_eq (pv 4) pe_int (nomark _)) (pe_one (pe_callB call_isi rfl mi PyProof.Rows.boot_isinstance (pa_cons (pxt 2) (pa_cons (pe_bltn (v := .ty "str") rfl ms PyProof.Rows.boot_str rfl) pa_nil))))))) (pss_one (ps_if (pt_cmpR op_eq (pv 3) pe_str (nomark _)) (pss_one (ps_set (i := 5) scCp.nd rfl (.inl rfl) (pe_and (pe_cmpR op_eq (pv 4) pe_int (nomark _)) (pe_and (pe_callB call_isi rfl mi PyProof.Rows.boot_isinstance (pa_cons (pxt 2) (pa_cons (pe_bltn (v := .ty "int") rfl mn boot_int rfl) pa_nil))) (pe_and (pe_not (pe_callB call_isi rfl mi PyProof.Rows.boot_isinstance (pa_cons (pxt 2) (pa_cons (pe_bltn (v := .ty "bool") rfl mb (show bootBuiltins "bool" = some (.type "bool") by decide +kernel) rfl) pa_nil)))) (pe_one (pe_cmpR op_ge (pxt 2) pe_int (nomark _)))))))) (pss_one (ps_if (pt_cmpR op_in_seq (pv 3) (pe_tup (pa_cons pe_str (pa_cons pe_str (pa_cons pe_str pa_nil)))) (by rfl)) (pss_cons (ps_set (i := 5) scCp.nd rfl (.inl rfl) (pe_and (pe_cmpR op_eq (pv 4) (pe_ifExp (pt_cmpR op_eq (pv 3) pe_str (nomark _)) pe_int pe_int) (nomark _)) (pe_one (pe_callB call_isi rfl mi PyProof.Rows.boot_isinstance (pa_cons (pxt 2) (pa_cons (pe_bltn (v := .ty "str") rfl ms PyProof.Rows.boot_str rfl) pa_nil)))))) (pss_one (ps_aug (i := 1) scCp.nd rfl (.inl rfl) (pe_slice sl_tupA (pv 2) (po_some pe_int) po_none) iop_extT))) (pss_one (ps_if (pt_cmpR op_eq (pv 3) pe_str (nomark _)) (pss_one (ps_set (i := 5) scCp.nd rfl (.inl rfl) (pe_and (pe_cmpR op_eq (pv 4) pe_int (nomark _)) (pe_one (pe_call GL (hr.mono (by omega)) rfl CL.m CL.kp CL.b .nil pass0 (pa_cons (pxt 2) pa_nil)))))) (pss_one (ps_set (i := 5) scCp.nd rfl (.inl rfl) (pe_and (pe_cmpR op_eq (pv 3) pe_str (nomark _)) (pe_and (pe_cmpR op_eq (pv 4) pe_int (nomark _)) (pe_and (pe_callB call_isi rfl mi PyProof.Rows.boot_isinstance (pa_cons (pxt 2) (pa_cons (pe_bltn (v := .ty "str") rfl ms PyProof.Rows.boot_str rfl) pa_nil))) (pe_one (pe_call GL (hr.mono (by omega)) rfl CL.m CL.kp CL.b .nil pass0 (pa_cons (pxt 2) pa_nil))))))))))))))))) (pss_one (ps_if (pt_not (pt_val (pv 5))) (pss_one (ps_raise rfl (takes_of rfl rfl rfl rfl) (pmk_own PySem.F.excBase_ValueError X.x X.g X.k (raises_own X.b X.t) rfl))) pss_nil))))))) (pss_one (ps_ret (pv 1)))), ?_⟩
  refine ⟨szl (by decide), fun lf hlf => ?_⟩
  have g1 : Gr T H (upd H lf (.lst [])) := Gr.new hlf
  cases hv with
  | @lst pr xs _ hpr hxs =>
  have hxl : xs.length = ds.length := hxs.length
  refine ⟨.ref pr, rfl, pr, rfl, ⟨xs, SqL.of (g1.lsts hpr)⟩, for_list (K := K) (xs := xs) (CpI T H pr lf ds) ⟨g1, ⟨none, none, none, none, rfl⟩, rfl, [], upd_same, .nil, Nat.zero_le _⟩ (fun i σ H' _ h => SqL.of (h.1.lsts hpr)) ?_ ?_⟩
  · rintro i x σ H' hx ⟨gr, ⟨c2, c3, c4, c5, rfl⟩, hall, ws, hws, hdw, hwl⟩
    have hi := (List.getElem?_eq_some_iff.mp hx).1
    obtain ⟨d, hd⟩ : ∃ d, ds[i]? = some d := ⟨_, List.getElem?_eq_getElem (by omega)⟩
    obtain ⟨x', hx', hdx⟩ := hxs.get hd
    rw [hx] at hx'
    cases hx'
    have hmem : d ∈ ds := List.mem_of_getElem? hd
    have bad : isnode d = false → ds.all isnode = false := fun h => List.all_eq_false.mpr ⟨d, hmem, by rw [h]; exact Bool.false_ne_true⟩
    have hnd := hnod d hmem
    have e2 : ∀ {H2 : Hp} {c3 c4 c5 : Option V}, Gr T H' H2 → ED T (tVar 2) [some (.ref pr), some (.ref lf), some x, c3, c4, c5] H2 d := fun g => ed_var rfl ((gr.trans g).dx hdx)
    by_cases htup : isTupD d = true
    case neg =>
      have hf : isTupD d = false := by simpa using htup
      have hn : isnode d = false := by cases d <;> first | rfl | exact absurd rfl htup
      refine (et_is (c := true) (et_or (T := T) (b := true) (et_not (et_B (ed_isi (K := K) (e2 (Gr.refl _)) (kb_tup d)))) (fun z => by rw [hf] at z; cases z)) (by rw [hf]; rfl)) H' (Gr.refl _) _ fun H2 g2 => ?_
      exact iteT (he (bad hn) H2 (gr.trans g2))
    obtain ⟨es, rfl⟩ : ∃ es, d = .tuple es := by cases d <;> first | exact ⟨_, rfl⟩ | cases htup
    cases es with
    | nil =>
      refine (et_is (c := true) (et_or (T := T) (b := true) (et_not (et_B (ed_isi (K := K) (e2 (Gr.refl _)) (kb_tup _)))) (fun _ => et_is (et_or (b := true) (et_not (et_truT (K := K) (e2 (Gr.refl _)))) (fun z => nomatch z)) rfl)) rfl) H' (Gr.refl _) _ fun H2 g2 => ?_
      exact iteT (he (bad rfl) H2 (gr.trans g2))
    | cons e rest =>
    have hx0 : ∀ {H2 : Hp} {c3 c4 c5 : Option V}, Gr T H' H2 → ED T (tOp (rIxT K) (tVar 2) (tC (.int 0))) [some (.ref pr), some (.ref lf), some x, c3, c4, c5] H2 e := fun g => ed_x rfl ((gr.trans g).dx hdx) (atI_nat (j := 0) rfl)
    by_cases hstr : isStrD e = true
    case neg =>
      have hf : isStrD e = false := by simpa using hstr
      have hn : isnode (.tuple (e :: rest)) = false := by cases e <;> first | rfl | exact absurd rfl hstr
      refine (et_is (c := true) (et_or (T := T) (b := true) (et_not (et_B (ed_isi (K := K) (e2 (Gr.refl _)) (kb_tup _)))) (fun _ => et_is (et_or (b := true) (et_not (et_truT (K := K) (e2 (Gr.refl _)))) (fun _ => et_is (et_not (et_B (ed_isi (K := K) (hx0 (Gr.refl _)) (kb_str e)))) (by rw [hf]; rfl))) rfl)) rfl) H' (Gr.refl _) _ fun H2 g2 => ?_
      exact iteT (he (bad hn) H2 (gr.trans g2))
    obtain ⟨z, rfl⟩ : ∃ z, e = .str z := by cases e <;> first | exact ⟨_, rfl⟩ | cases hstr
    refine (et_is (c := false) (et_or (T := T) (b := false) (et_not (et_B (ed_isi (K := K) (e2 (Gr.refl _)) (kb_tup _)))) (fun _ => et_is (et_or (b := false) (et_not (et_truT (K := K) (e2 (Gr.refl _)))) (fun _ => et_is (et_not (et_B (ed_isi (K := K) (hx0 (Gr.refl _)) (kb_str _)))) rfl)) rfl)) rfl) H' (Gr.refl _) _ fun H2 g2 => ?_
    refine iteF ?_
    have gr2 := gr.trans g2
    refine s_set (T := T) (d := .str z) (hx0 g2) fun v3 H3 g3 hv3 => ?_
    cases hv3
    refine s_set (T := T) (d := .int (rest.length + 1 : Nat)) (ed_is (ed_lenT (K := K) (e2 (g2.trans g3))) (by simp)) fun v4 H4 g4 hv4 => ?_
    cases hv4
    have g24 := (g2.trans g3).trans g4
    have hmany : ∀ {H5 : Hp} {c5 : Option V} (k : Int) (n : Nat), k = (n : Int) + 1 → ED T (tOp rEq (tVar 4) (tC (.int k))) [some (.ref pr), some (.ref lf), some x, some (.str z), some (.int (rest.length + 1 : Nat)), c5] H5 (.bool (decide (rest.length = n))) := fun k n hk =>
      ed_is (ed_eqI (ed_var (d := .int (rest.length + 1 : Nat)) rfl (.int _)) ed_int) (congrArg PyData.bool (dec_iff ⟨fun h => by omega, fun h => by omega⟩))
    have hx1 : rest ≠ [] → ∀ {H5 : Hp} {c5 : Option V}, Gr T H' H5 → ED T (tOp (rIxT K) (tVar 2) (tC (.int 1))) [some (.ref pr), some (.ref lf), some x, some (.str z), some (.int (rest.length + 1 : Nat)), c5] H5 (at0 rest) := fun hne H5 c5 g =>
      ed_x rfl ((gr.trans g).dx hdx) (atI_nat (j := 1) (by cases rest with | nil => exact absurd rfl hne | cons a r => rfl))
    have hx2 : rest.length = 2 → ∀ {H5 : Hp} {c5 : Option V}, Gr T H' H5 → ED T (tOp (rIxT K) (tVar 2) (tC (.int 2))) [some (.ref pr), some (.ref lf), some x, some (.str z), some (.int (rest.length + 1 : Nat)), c5] H5 (at1 rest) := fun hne H5 c5 g =>
      ed_x rfl ((gr.trans g).dx hdx) (atI_nat (j := 2) (by cases rest with | nil => cases hne | cons a r => cases r with | nil => cases hne | cons b r => rfl))
    have ne1 : ∀ {n : Nat}, decide (rest.length = n + 1) = true → rest ≠ [] := fun h e => by have := of_decide_eq_true h; rw [e] at this; cases this
    have hst : ∀ {b : Str} {H5 : Hp} {c5 : Option V}, ED T (tOp rEq (tVar 3) (tC (.str b))) [some (.ref pr), some (.ref lf), some x, some (.str z), some (.int (rest.length + 1 : Nat)), c5] H5 (.bool (decide (z = b))) := ed_eqS (ed_var (d := .str z) rfl (.str _)) ed_str
    -- what comes behind
    have nxt : isnode (.tuple (.str z :: rest)) = true → ∀ {H7 H8 : Hp} {ws7 us : List V} {c5 : Option V}, Gr T H H7 → H7 lf = some (.lst ws7) → ws7 = ws ++ us → DxA H us (kidsD (.tuple (.str z :: rest))) → Gr T H7 H8 → CpI T H pr lf ds (i + 1) [some (.ref pr), some (.ref lf), some x, some (.str z), some (.int (rest.length + 1 : Nat)), c5] H8 := fun h H7 H8 ws7 us c5 a1 a2 a3 a4 a5 => by
      refine ⟨a1.trans a5, ⟨_, _, _, _, rfl⟩, ?_, ws7, a5.lsts a2, ?_, ?_⟩
      · rw [List.take_succ, hd, List.all_append, hall]
        show (true && (isnode _ && true)) = true
        rw [h]; rfl
      · rw [a3, List.take_succ, hd, List.flatMap_append]
        exact hdw.append (by simpa using a4)
      · rw [a3, List.length_append, a4.length]
        have := kids_three h
        omega
    have plain : kidsD (.tuple (.str z :: rest)) = [] → ∀ {H7 H8 : Hp} {c5 : Option V}, Gr T H' H7 → isnode (.tuple (.str z :: rest)) = true → Gr T H7 H8 → CpI T H pr lf ds (i + 1) [some (.ref pr), some (.ref lf), some x, some (.str z), some (.int (rest.length + 1 : Nat)), c5] H8 := fun hk H7 H8 c5 a1 h a5 =>
      nxt h (gr.trans a1) (a1.lsts hws) (List.append_nil ws).symm (by rw [hk]; exact .nil) a5
    have hgood : isnode (.tuple (.str z :: rest)) = goodD z rest := rfl
    have hkids : kidsD (.tuple (.str z :: rest)) = (if z = "app" then rest else if z ∈ bwl then rest.drop 1 else []) := rfl
    cases hdx with
    | @tup pa zs _ hpa hzs =>
    have hzl : zs.length = rest.length + 1 := hzs.length
    have hz100 : zs.length ≤ 100 := by have := hnd _ rfl; rw [List.length_cons] at this; omega
    have hwsl : ws.length + zs.length ≤ 16000000 := by omega
    -- if word == 'app'
    refine (et_test (T := T) hst) _ (Gr.refl _) _ fun H5 g5 => ?_
    have g25 := g24.trans g5
    refine ite2 (fun hc => ?_) (fun hc => ?_)
    · have hz : z = "app" := of_decide_eq_true hc
      rw [hgood, hkids] at nxt
      rw [hgood] at bad
      unfold goodD at nxt bad
      rw [if_pos hz] at nxt bad
      rw [if_pos hz] at nxt
      refine s_set (T := T) (hmany 3 2 (by decide)) fun v6 H6 g6 hv6 => ?_
      cases hv6
      have g26 := g25.trans g6
      refine s_ext (T := T) (n := 1) rfl rfl (g26.lsts hws) ((gr.trans g26).tups hpa) rfl (by decide) (by omega) hwsl fun H7 g7 h7 => ?_
      have gr8 := (gr.trans (g26.trans g7)).mut (o := .lst (ws ++ zs.drop 1)) hlf h7
      dsimp only
      refine cp_tail (T := T) rfl ?_ ?_
      exact fun h H8 g8 => he (bad h) H8 (gr8.trans g8)
      exact fun h H8 g8 => nxt h gr8 upd_same rfl (dxA_drop 1 hzs) g8
    have n1 : z ≠ "app" := fun e => hc (decide_eq_true e)
    rw [hgood] at bad plain
    rw [hkids, if_neg n1] at plain
    rw [hgood, hkids, if_neg n1] at nxt
    unfold goodD at nxt bad plain
    rw [if_neg n1] at nxt bad plain
    -- 'const'
    refine (et_test (T := T) hst) _ (Gr.refl _) _ fun H6 g6 => ?_
    have g26 := g25.trans g6
    refine ite2 (fun hc => ?_) (fun hc => ?_)
    · have hz : z = "const" := of_decide_eq_true hc
      have nb : z ∉ bwl := fun e => by rw [hz] at e; exact absurd e (by decide)
      rw [if_pos hz] at bad plain
      rw [if_neg nb] at plain
      refine s_set (T := T) (d := .bool (decide (rest.length = 1) && isStrD (at0 rest))) (ed_andV (hmany 2 1 (by decide)) fun h => ed_isi (K := K) (hx1 (ne1 h) g26) (kb_str _)) fun v7 H7 g7 hv7 => ?_
      cases hv7
      dsimp only
      refine cp_tail (T := T) rfl ?_ ?_
      exact fun h H8 g8 => he (bad h) H8 (gr.trans ((g26.trans g7).trans g8))
      exact fun h H8 g8 => plain rfl (g26.trans g7) h g8
    have n2 : z ≠ "const" := fun e => hc (decide_eq_true e)
    rw [if_neg n2] at nxt bad plain
    -- 'var'
    refine (et_test (T := T) hst) _ (Gr.refl _) _ fun H7 g7 => ?_
    have g27 := g26.trans g7
    refine ite2 (fun hc => ?_) (fun hc => ?_)
    · have hz : z = "var" := of_decide_eq_true hc
      have nb : z ∉ bwl := fun e => by rw [hz] at e; exact absurd e (by decide)
      rw [if_pos hz] at bad plain
      rw [if_neg nb] at plain
      refine s_set (T := T) (d := .bool (decide (rest.length = 1) && isNumD (at0 rest))) (ed_andV (hmany 2 1 (by decide)) fun h => ed_num (hx1 (ne1 h) g27) (hx1 (ne1 h) g27) (hx1 (ne1 h) g27)) fun v8 H8 g8 hv8 => ?_
      cases hv8
      dsimp only
      refine cp_tail (T := T) rfl ?_ ?_
      exact fun h H9 g9 => he (bad h) H9 (gr.trans ((g27.trans g8).trans g9))
      exact fun h H9 g9 => plain rfl (g27.trans g8) h g9
    have n3 : z ≠ "var" := fun e => hc (decide_eq_true e)
    rw [if_neg n3] at nxt bad plain
    -- 'pi', 'lam', 'let'
    refine (et_test (T := T) (ed_inT ["pi", "lam", "let"] (ed_var (d := .str z) rfl (.str _)) (ed_tup (eda_cons ed_str (eda_cons ed_str (eda_cons ed_str eda_nil)))))) _ (Gr.refl _) _ fun H8 g8 => ?_
    have g28 := g27.trans g8
    refine ite2 (fun hc => ?_) (fun hc => ?_)
    · have hz : z ∈ bwl := of_decide_eq_true hc
      rw [if_pos hz] at bad nxt
      rw [if_pos hz] at nxt
      refine s_set (T := T) (d := .bool (decide (rest.length = if z = "let" then 4 else 3) && isStrD (at0 rest))) (ed_andV ?_ fun h => ed_isi (K := K) (hx1 ?_ g28) (kb_str _)) fun v9 H9 g9 hv9 => ?_
      · by_cases hl : z = "let"
        · rw [if_pos hl]
          exact ed_is (ed_eqI (b := 5) (ed_var (i := 4) (d := .int (rest.length + 1 : Nat)) rfl (.int _)) (ed_if (et_test hst) (fun _ => ed_int) (fun h => absurd (decide_eq_true hl) (by rw [h]; decide)))) (congrArg PyData.bool (dec_iff ⟨fun h => by omega, fun h => by omega⟩))
        · rw [if_neg hl]
          exact ed_is (ed_eqI (b := 4) (ed_var (i := 4) (d := .int (rest.length + 1 : Nat)) rfl (.int _)) (ed_if (et_test hst) (fun h => absurd (of_decide_eq_true h) hl) (fun _ => ed_int))) (congrArg PyData.bool (dec_iff ⟨fun h => by omega, fun h => by omega⟩))
      · intro e
        have := of_decide_eq_true h
        rw [e] at this
        split at this <;> cases this
      cases hv9
      have g29 := g28.trans g9
      refine s_ext (T := T) (n := 2) rfl rfl (g29.lsts hws) ((gr.trans g29).tups hpa) rfl (by decide) (by omega) hwsl fun H10 g10 h10 => ?_
      have gr8 := (gr.trans (g29.trans g10)).mut (o := .lst (ws ++ zs.drop 2)) hlf h10
      dsimp only
      refine cp_tail (T := T) rfl ?_ ?_
      exact fun h H11 g11 => he (bad h) H11 (gr8.trans g11)
      exact fun h H11 g11 => nxt h gr8 upd_same rfl (dxA_drop 2 hzs) g11
    have nb : z ∉ bwl := fun e => hc (decide_eq_true e)
    rw [if_neg nb] at bad plain
    rw [if_neg nb] at plain
    -- 'sort'
    refine (et_test (T := T) hst) _ (Gr.refl _) _ fun H9 g9 => ?_
    have g29 := g28.trans g9
    refine ite2 (fun hc => ?_) (fun hc => ?_)
    · have hz : z = "sort" := of_decide_eq_true hc
      rw [if_pos hz] at bad plain
      refine s_set (T := T) (d := .bool (decide (rest.length = 1) && levD (at0 rest))) (ed_andV (hmany 2 1 (by decide)) fun h => ed_call (dd := []) ((gr.trans g29).2 hT) (eda_cons (hx1 (ne1 h) g29) eda_nil) (fun _ => .nil) ⟨_, rfl, rfl⟩) fun v10 H10 g10 hv10 => ?_
      cases hv10
      dsimp only
      refine cp_tail (T := T) rfl ?_ ?_
      exact fun h H11 g11 => he (bad h) H11 (gr.trans ((g29.trans g10).trans g11))
      exact fun h H11 g11 => plain rfl (g29.trans g10) h g11
    have n5 : z ≠ "sort" := fun e => hc (decide_eq_true e)
    rw [if_neg n5] at bad plain
    refine s_set (T := T) (d := .bool (decide (z = "rec") && (decide (rest.length = 2) && (isStrD (at0 rest) && levD (at1 rest))))) (ed_andV hst fun _ => ed_andV (hmany 3 2 (by decide)) fun h => ed_andV (ed_isi (K := K) (hx1 (ne1 h) g29) (kb_str _)) fun _ => ed_call (dd := []) ((gr.trans g29).2 hT) (eda_cons (hx2 (of_decide_eq_true h) g29) eda_nil) (fun _ => .nil) ⟨_, rfl, rfl⟩) fun v10 H10 g10 hv10 => ?_
    cases hv10
    dsimp only
    refine cp_tail (T := T) rfl ?_ ?_
    exact fun h H11 g11 => he (bad h) H11 (gr.trans ((g29.trans g10).trans g11))
    exact fun h H11 g11 => plain rfl (g29.trans g10) h g11
  · rintro σ' H' ⟨gr, ⟨c2, c3, c4, c5, rfl⟩, hall, ws, hws, hdw, hwl⟩
    rw [hxl, List.take_length] at hall hdw
    exact ⟨.ref lf, rfl, hq hall _ _ gr (.lst hws (gr.dxA hdw))⟩
end
end K1
namespace K1
open PySem PySem.Spec PyProof.Rows L2
/-! ### check_term -/
def chkB : Nat → Nat → List PyData → Bool
  | 0, _, _ => false
  | r + 1, many, row => decide (many + row.length ≤ 20000) && (row.all isnode && ((row.flatMap kidsD).isEmpty || chkB r (many + row.length) (row.flatMap kidsD)))
/-- what check_term tells of a value -/
def chkOk (d : PyData) : Bool := chkB 100 0 [d]
inductive HN : PyData → Prop
  | mk (d : PyData) : nodeable d → (isnode d = true → ∀ k ∈ kidsD d, HN k) → HN d
theorem HN.at {d : PyData} (h : HN d) : nodeable d := by cases h; assumption
theorem HN.kid {d k : PyData} (h : HN d) (n : isnode d = true) (hk : k ∈ kidsD d) : HN k := by cases h with | mk _ _ g => exact g n k hk
def spChk (T : Tbl) (C : Addr) : Sp := fun vs H Q E => ∃ (d : PyData) (v : V), vs = [v] ∧ Dx H v d ∧ HN d ∧ Tb T H ∧ (chkOk d = true → ∀ v' H', Gr T H H' → Dx H' v' d → Q v' H') ∧
  (chkOk d = false → ∀ H', Gr T H H' → E (.ref C) none H')
abbrev sChk : Stmt := topS 11
theorem scChk : FnScope ["term", "many", "row", "_"] ["term"] (defScope sChk) := ⟨rfl, rfl, rfl, by decide +kernel, rfl, by decide +kernel, by decide +kernel⟩
section
variable {T : Tbl} {K : PySem.W.Frag} {σ : L2.St} {H H' : Hp} {te : TE}
theorem et_truL {ds : List PyData} (h : ED T te σ H (.list ds)) : ET T (fun σ H Q => te σ H fun x H' => ∃ k, TruV K x H' k ∧ Q k H') σ H (!ds.isEmpty) := fun H1 g Q q => h H1 g _ fun v H2 g2 hv => by
  cases hv with
  | lst h1 h2 =>
    refine ⟨!ds.isEmpty, .inl ⟨_, SqL.of h1, ?_⟩, q H2 g2⟩
    cases h2 <;> rfl
theorem s_when {t : TT} {A B : TS} {b : Bool} {D : Ends} (h : ET T t σ H b) (k1 : b = true → ∀ H1, Gr T H H1 → A D σ H1) (k2 : b = false → ∀ H1, Gr T H H1 → B D σ H1) : tIfS t A B D σ H := h H (Gr.refl _) _ fun H1 g => by
  cases b with
  | true => exact iteT (k1 rfl H1 g)
  | false => exact iteF (k2 rfl H1 g)
end
section
variable {P : Program} {w : World} {K : PySem.W.Frag} {mg : Str → Option Value} {base : Heap} {T : Tbl} {f fc C : Addr} {fd fcd : FuncData} {t1 t2 : Tok}
theorem ok_chk (F : Fun K "check_term" "check_term" sChk f fd) (X : TErr K mg C) (GC : FnOk P w K mg base (L2.CX P w) 3 fc fcd ["row"] (spCp T C)) (CC : Cal K mg "checked_parts" fc fcd ["row"])
    (m1 : mg "MOST_PARTS" = some (.int 20000 t1)) (m2 : mg "MOST_DEEP" = some (.int 100 t2)) (mr : mg "range" = none) (ml : mg "len" = none) : FnOk P w K mg base (L2.CX P w) 4 f fd ["term"] (spChk T C) := by
  refine F.okX scChk (fun vs H Q E ⟨d, v, e, _⟩ => by rw [e]; rfl) (fun cdv A outer s H vs Q E hr h => ?_)
  obtain ⟨d, v0, rfl, hv, hn, hT, hq, he⟩ := h
  refine ⟨_, pss_cons (ps_set (i := 1) scChk.nd rfl (.inl rfl) pe_int)
    (pss_cons (ps_set (i := 2) scChk.nd rfl (.inl rfl) (pe_lst (pa_cons (pv 0) pa_nil)))
    (pss_cons (ps_for (passes_of rfl) rfl (pi_range1 rfl mr (pa_cons (pe_glob (v := .int 100) rfl m2 ⟨_, rfl⟩) pa_nil)) (pg_name (i := 3) scChk.nd rfl (.inl rfl))
      (pss_cons (ps_aug (i := 1) scChk.nd rfl (.inl rfl) (pe_callB call_len_seq rfl ml boot_len (pa_cons (pv 2) pa_nil)) ip_add)
      (pss_cons (ps_if (pt_cmpR op_gt (pv 1) (pe_glob (v := .int 20000) rfl m1 ⟨_, rfl⟩) (nomark _)) (pss_one ps_break) pss_nil)
      (pss_cons (ps_set (i := 2) scChk.nd rfl (.inl rfl) (pe_callS (E := WE (fun cls d _ H => E cls d H)) GC hr rfl CC.m CC.kp CC.b (fun σ => passAt (takes_of rfl rfl rfl rfl) σ) (pa_cons (pv 2) pa_nil)))
      (pss_one (ps_if (pt_not (pt_truth (pv 2) (by intro _; rfl))) (pss_one (ps_ret (pv 0))) pss_nil))))))
    (pss_one (ps_raise rfl (takes_of rfl rfl rfl rfl) (pmk_own PySem.F.excBase_ValueError X.x X.g X.k (raises_own X.b X.t) rfl))))), ?_⟩
  -- row = [term]
  refine ⟨v0, rfl, szl (Nat.le_of_ble_eq_true rfl), fun lr hlr => ?_⟩
  have g0 := Gr.new (T := T) (o := .lst [v0]) hlr
  refine ⟨100, rfl, by decide, by decide, for_range (lo := 0) (n := 100) (fun i σ H' => Gr T H H' ∧ ∃ (row : List PyData) (vr : V) (many : Nat) (c : Option V), σ = [some v0, some (.int (many : Nat)), some vr, c] ∧ Dx H' vr (.list row) ∧ (∀ d ∈ row, HN d) ∧ chkB (100 - i) many row = chkOk d) ?_ ?_ ?_⟩
  · exact ⟨g0, [d], .ref lr, 0, none, rfl, .lst upd_same (.cons (g0.dx hv) .nil), fun k hk => by rw [List.mem_singleton.mp hk]; exact hn, rfl⟩
  · rintro i σ H' hi ⟨gr, row, vr, many, c, rfl, hrow, hnr, hrun⟩
    obtain ⟨k, hk⟩ : ∃ k, 100 - i = k + 1 := ⟨100 - i - 1, by omega⟩
    rw [hk] at hrun
    have hrun : (decide (many + row.length ≤ 20000) && (row.all isnode && ((row.flatMap kidsD).isEmpty || chkB k (many + row.length) (row.flatMap kidsD)))) = chkOk d := hrun
    -- many += len(row)
    refine ⟨_, rfl, ?_⟩
    refine (ed_lenL (T := T) (K := K) (σ := [some v0, some (.int (many : Nat)), some vr, some (.int (0 + (i : Nat)))]) (ed_var (i := 2) rfl hrow)) H' (Gr.refl _) _ fun vl H1 g1 hvl => ?_
    cases hvl
    refine ⟨_, _, rfl, rfl, ?_⟩
    have gr1 := gr.trans g1
    refine (et_test (T := T) (ed_gt (i := (many : Int) + row.length) (j := 20000) (ed_var rfl (.int _)) ed_int)) _ (Gr.refl _) _ fun H2 g2 => ?_
    have gr2 := gr1.trans g2
    refine ite2 (fun hc => ?_) (fun hc => ?_)
    · have : ¬ many + row.length ≤ 20000 := by have := of_decide_eq_true hc; omega
      rw [decide_eq_false this] at hrun
      exact he hrun.symm H2 gr2
    have hle : many + row.length ≤ 20000 := by
      have : ¬ (20000 : Int) < (many : Int) + row.length := fun z => hc (decide_eq_true z)
      omega
    rw [decide_eq_true hle, Bool.true_and] at hrun
    have hrow2 := (g1.trans g2).dx hrow
    -- row = checked_parts(row)
    refine ⟨vr, rfl, row, vr, rfl, hrow2, gr2.2 hT, by omega, fun d hd => (hnr d hd).at, fun hall v3 H3 g3 hv3 => ?_, fun hall H3 g3 => ?_⟩
    · rw [hall, Bool.true_and] at hrun
      have gr3 := gr2.trans g3
      have et : ET T (tNot (fun σ H Q => tVar 2 σ H fun x H' => ∃ k, TruV K x H' k ∧ Q k H')) [some v0, some (.int ((many : Int) + row.length)), some v3, some (.int (0 + (i : Nat)))] H3 (row.flatMap kidsD).isEmpty := et_is (et_not (et_truL (K := K) (ed_var (i := 2) rfl hv3))) (Bool.not_not _)
      dsimp only [gName, List.set]
      refine s_when et (fun hc H4 g4 => ?_) (fun hc H4 g4 => ?_)
      · rw [hc] at hrun
        exact ⟨v0, rfl, hq hrun.symm _ _ (gr3.trans g4) ((gr3.trans g4).dx hv)⟩
      · rw [hc] at hrun
        refine ⟨gr3.trans g4, _, v3, many + row.length, _, by rw [Int.natCast_add], g4.dx hv3, fun k hk => ?_, ?_⟩
        · obtain ⟨d, hd, hkd⟩ := List.mem_flatMap.mp hk
          exact (hnr d hd).kid (List.all_eq_true.mp hall d hd) hkd
        · rw [show 100 - (i + 1) = k by omega]
          exact hrun
    · rw [hall] at hrun
      exact he hrun.symm H3 (gr2.trans g3)
  · rintro σ H' ⟨gr, row, vr, many, c, rfl, hrow, hnr, hrun⟩
    exact he hrun.symm H' gr
end
end K1
namespace K1
open PySem PySem.Spec PyProof.Rows L2
/-! ### terms pass check_term -/
def LvL : Lf → Prop
  | .sort l => l ≤ 12
  | .cst _ => True
  | .rcr _ l => l ≤ 12
def Lv : Tm → Prop
  | .var _ => True
  | .leaf l => LvL l
  | .bind _ _ k b => Lv k ∧ Lv b
  | .app f a => Lv f ∧ Lv a
  | .letE _ k v b => Lv k ∧ Lv v ∧ Lv b
theorem lev_nat {n : Nat} (h : n ≤ 12) : levD (.int n) = true := by
  show (decide ((0 : Int) ≤ (n : Int)) && decide ((n : Int) ≤ 12)) = true
  rw [decide_eq_true (by omega), decide_eq_true (by omega)]
  rfl
theorem isnode_enc {t : Tm} (h : Lv t) : isnode (enc t) = true := by
  cases t with
  | var n =>
    show (decide (1 = 1) && decide ((0 : Int) ≤ (n : Int))) = true
    rw [decide_eq_true (by omega : (0 : Int) ≤ (n : Int))]
    rfl
  | leaf l =>
    cases l with
    | sort l => exact lev_nat h
    | cst c => rfl
    | rcr c l => exact lev_nat h
  | bind p x k b => cases p <;> rfl
  | app f a => rfl
  | letE x k v b => rfl
def kd (t : Tm) : List Tm := (kidsT t 0).map (·.1)
theorem kids_encD (t : Tm) : kidsD (enc t) = (kd t).map enc := by
  cases t with
  | var n => rfl
  | leaf l => cases l <;> rfl
  | bind p x k b => cases p <;> rfl
  | app f a => rfl
  | letE x k v b => rfl
theorem lv_kd {t : Tm} (h : Lv t) : ∀ k ∈ kd t, Lv k := by
  cases t with
  | var n => intro k hk; cases hk
  | leaf l => intro k hk; cases hk
  | bind p x a b => intro k hk; simp [kd, kidsT] at hk; rcases hk with rfl | rfl; exact h.1; exact h.2
  | app f a => intro k hk; simp [kd, kidsT] at hk; rcases hk with rfl | rfl; exact h.1; exact h.2
  | letE x a v b => intro k hk; simp [kd, kidsT] at hk; rcases hk with rfl | rfl | rfl; exact h.1; exact h.2.1; exact h.2.2
def csum (L : List Tm) : Nat := (L.map cnt).sum
theorem csum_app (L M : List Tm) : csum (L ++ M) = csum L + csum M := by simp [csum]
theorem csum_cons (t : Tm) (L : List Tm) : csum (t :: L) = cnt t + csum L := by simp [csum]
theorem csum_kd (t : Tm) : csum (kd t) + 1 = cnt t := by
  cases t <;> simp [kd, kidsT, csum, cnt] <;> omega
theorem csum_kids : ∀ L : List Tm, csum (L.flatMap kd) + L.length = csum L
  | [] => rfl
  | t :: L => by
    rw [List.flatMap_cons, csum_app, csum_cons, List.length_cons]
    have := csum_kd t
    have := csum_kids L
    omega
theorem row_kids (L : List Tm) : (L.map enc).flatMap kidsD = (L.flatMap kd).map enc := by
  induction L with
  | nil => rfl
  | cons t L ih => rw [List.map_cons, List.flatMap_cons, List.flatMap_cons, List.map_append, ih, kids_encD]
theorem row_nodes {L : List Tm} (h : ∀ t ∈ L, Lv t) : (L.map enc).all isnode = true := by
  rw [List.all_map, List.all_eq_true]
  exact fun t ht => isnode_enc (h t ht)
theorem kd_dep {t k : Tm} (hk : k ∈ kd t) : dep k < dep t := by
  obtain ⟨p, hp, rfl⟩ := List.mem_map.mp hk
  exact kids_dep t 0 p hp
theorem chkB_enc : ∀ (r many : Nat) (L : List Tm), L ≠ [] → (∀ t ∈ L, Lv t ∧ dep t ≤ r) → many + csum L ≤ 20000 → chkB r many (L.map enc) = true
  | 0, many, L, hne, h, _ => by
    cases L with
    | nil => exact absurd rfl hne
    | cons t L => have := (h t List.mem_cons_self).2; have := dep_pos t; omega
  | r + 1, many, L, hne, h, hs => by
    have hk := csum_kids L
    show (decide (many + (L.map enc).length ≤ 20000) && ((L.map enc).all isnode && (((L.map enc).flatMap kidsD).isEmpty || chkB r (many + (L.map enc).length) ((L.map enc).flatMap kidsD)))) = true
    rw [List.length_map, decide_eq_true (by omega), row_nodes fun t ht => (h t ht).1, row_kids]
    by_cases he : L.flatMap kd = []
    · rw [he]; rfl
    · rw [chkB_enc r (many + L.length) (L.flatMap kd) he (fun k hk => ?_) (by omega), Bool.or_true]; rfl
      obtain ⟨t, ht, hkt⟩ := List.mem_flatMap.mp hk
      have := kd_dep hkt
      have := (h t ht).2
      exact ⟨lv_kd (h t ht).1 k hkt, by omega⟩
theorem chk_top {t : Tm} (h : Lv t) (hc : cnt t ≤ 20000) (hd : dep t ≤ 100) : chkOk (enc t) = true :=
  chkB_enc 100 0 [t] (by simp) (fun u hu => by rw [List.mem_singleton.mp hu]; exact ⟨h, hd⟩) (by simp [csum]; exact hc)
theorem nodeable_len {es : List PyData} (h : es.length ≤ 100) : nodeable (.tuple es) := fun es' e => by cases e; exact h
theorem hn_enc (t : Tm) : HN (enc t) := by
  have key : nodeable (enc t) ∧ ∀ k ∈ kidsD (enc t), ∃ u ∈ kd t, k = enc u := by
    refine ⟨?_, fun k hk => ?_⟩
    · cases t with
      | var n => exact nodeable_len (by simp)
      | leaf l => cases l <;> exact nodeable_len (by simp)
      | bind p x k b => exact nodeable_len (by show 4 ≤ 100; omega)
      | app f a => exact nodeable_len (by show 3 ≤ 100; omega)
      | letE x k v b => exact nodeable_len (by show 5 ≤ 100; omega)
    · rw [kids_encD] at hk
      obtain ⟨u, hu, rfl⟩ := List.mem_map.mp hk
      exact ⟨u, hu, rfl⟩
  refine .mk _ key.1 fun _ k hk => ?_
  obtain ⟨u, hu, rfl⟩ := key.2 k hk
  have := kd_dep hu
  exact hn_enc u
termination_by dep t
/-! deep ones -/
def nest : Nat → Tm
  | 0 => .leaf (.sort 0)
  | n + 1 => .app (nest n) (.leaf (.sort 0))
theorem lv_nest : ∀ n, Lv (nest n)
  | 0 => Nat.zero_le _
  | n + 1 => ⟨lv_nest n, Nat.zero_le _⟩
theorem dep_nest : ∀ n, dep (nest n) = n + 1
  | 0 => rfl
  | n + 1 => by show max (dep (nest n)) 1 + 1 = _; rw [dep_nest n]; omega
theorem cnt_nest : ∀ n, cnt (nest n) = 2 * n + 1
  | 0 => rfl
  | n + 1 => by show 1 + (cnt (nest n) + 1) = _; rw [cnt_nest n]; omega
theorem dep_kid {t : Tm} (h : 1 < dep t) : ∃ k ∈ kd t, dep t = dep k + 1 := by
  cases t with
  | var n => simp [dep] at h
  | leaf l => simp [dep] at h
  | bind p x k b =>
    simp only [dep] at h ⊢
    by_cases hle : dep k ≤ dep b
    · exact ⟨b, by simp [kd, kidsT], by omega⟩
    · exact ⟨k, by simp [kd, kidsT], by omega⟩
  | app f a =>
    simp only [dep] at h ⊢
    by_cases hle : dep f ≤ dep a
    · exact ⟨a, by simp [kd, kidsT], by omega⟩
    · exact ⟨f, by simp [kd, kidsT], by omega⟩
  | letE x k v b =>
    simp only [dep] at h ⊢
    by_cases h1 : dep k ≤ dep b ∧ dep v ≤ dep b
    · exact ⟨b, by simp [kd, kidsT], by omega⟩
    · by_cases h2 : dep k ≤ dep v
      · exact ⟨v, by simp [kd, kidsT], by omega⟩
      · exact ⟨k, by simp [kd, kidsT], by omega⟩
theorem chkB_deep : ∀ (r many : Nat) (L : List Tm), (∀ t ∈ L, Lv t) → (∃ t ∈ L, r < dep t) → chkB r many (L.map enc) = false
  | 0, many, L, _, _ => rfl
  | r + 1, many, L, h, ⟨t, ht, hd⟩ => by
    show (decide (many + (L.map enc).length ≤ 20000) && ((L.map enc).all isnode && (((L.map enc).flatMap kidsD).isEmpty || chkB r (many + (L.map enc).length) ((L.map enc).flatMap kidsD)))) = false
    obtain ⟨k, hk, hkd⟩ := dep_kid (t := t) (by have := dep_pos t; omega)
    have hmem : k ∈ L.flatMap kd := List.mem_flatMap.mpr ⟨t, ht, hk⟩
    rw [row_kids, chkB_deep r _ (L.flatMap kd) (fun u hu => by obtain ⟨s, hs, hus⟩ := List.mem_flatMap.mp hu; exact lv_kd (h s hs) u hus) ⟨k, hmem, by omega⟩]
    have hne : ((L.flatMap kd).map enc).isEmpty = false := by
      cases e : L.flatMap kd with
      | nil => rw [e] at hmem; cases hmem
      | cons a b => rfl
    rw [hne]
    simp
theorem chk_nest (n : Nat) (h : n ≤ 1000) : chkOk (enc (nest n)) = decide (n ≤ 99) := by
  by_cases hn : n ≤ 99
  · rw [decide_eq_true hn]
    exact chk_top (lv_nest n) (by rw [cnt_nest]; omega) (by rw [dep_nest]; omega)
  · rw [decide_eq_false hn]
    exact chkB_deep 100 0 [nest n] (fun t ht => by rw [List.mem_singleton.mp ht]; exact lv_nest n) ⟨nest n, List.mem_singleton.mpr rfl, by rw [dep_nest]; omega⟩
/-! the values that are none -/
def badL : List PyData := [.int 5, .tuple [], .tuple [.str "var"], .tuple [.str "var", .int (-1)], .tuple [.str "var", .bool true], .tuple [.str "var", .str "x"], .tuple [.str "sort", .int 13], .tuple [.str "const", .int 5], .tuple [.str "rec", .str "a"], .tuple [.str "rec", .str "a", .int 13],
  .tuple [.str "lam", .str "x", .tuple [.str "sort", .int 0]], .tuple [.str "app", .tuple [.str "sort", .int 0], .int 7], .tuple [.str "pi", .int 1, .tuple [.str "sort", .int 0], .tuple [.str "sort", .int 0]], .tuple [.str "walk", .int 1], .tuple [.tuple [.str "sort", .int 0]], .tuple [.list [], .int 1]]
theorem chk_bad1 {d : PyData} (h : isnode d = false) : chkOk d = false := by
  show (decide (0 + [d].length ≤ 20000) && ((isnode d && true) && _)) = false
  rw [h]
  rfl
theorem hn_bad {d : PyData} (h : isnode d = false) (n : nodeable d) : HN d := .mk d n fun z => by rw [h] at z; cases z
theorem nodeable_atom {d : PyData} (ht : ∀ es, d ≠ .tuple es) : nodeable d := fun es e => absurd e (ht es)
theorem bad_ok : ∀ d ∈ badL, HN d ∧ chkOk d = false := by
  intro d hd
  have hb : ∀ d, isnode d = false → nodeable d → HN d ∧ chkOk d = false := fun d h n => ⟨hn_bad h n, chk_bad1 h⟩
  simp only [badL, List.mem_cons, List.not_mem_nil, or_false] at hd
  rcases hd with rfl | rfl | rfl | rfl | rfl | rfl | rfl | rfl | rfl | rfl | rfl | rfl | rfl | rfl | rfl | rfl
  · exact hb _ rfl (nodeable_atom fun es e => by cases e)
  · exact hb _ rfl (nodeable_len (by decide))
  · exact hb _ (by decide) (nodeable_len (by decide))
  · exact hb _ (by decide) (nodeable_len (by decide))
  · exact hb _ (by decide) (nodeable_len (by decide))
  · exact hb _ (by decide) (nodeable_len (by decide))
  · exact hb _ (by decide) (nodeable_len (by decide))
  · exact hb _ (by decide) (nodeable_len (by decide))
  · exact hb _ (by decide) (nodeable_len (by decide))
  · exact hb _ (by decide) (nodeable_len (by decide))
  · exact hb _ (by decide) (nodeable_len (by decide))
  · have k0 : kidsD (.tuple [.str "app", .tuple [.str "sort", .int 0], .int 7]) = [.tuple [.str "sort", .int 0], .int 7] := rfl
    refine ⟨.mk _ (nodeable_len (by decide)) (fun _ q hq => ?_), ?_⟩
    · rw [k0] at hq
      simp at hq
      rcases hq with rfl | rfl
      · exact hn_enc (.leaf (.sort 0))
      · exact hn_bad rfl (nodeable_atom fun es e => by cases e)
    · rfl
  · exact hb _ (by decide) (nodeable_len (by decide))
  · exact hb _ (by decide) (nodeable_len (by decide))
  · exact hb _ (by decide) (nodeable_len (by decide))
  · exact hb _ (by decide) (nodeable_len (by decide))
theorem an {n a : Nat} (k : Nat) (h : a < n) : n + k ≠ a := by omega
theorem an0 {n a : Nat} (h : a < n) : n ≠ a := by omega
theorem adk (n : Nat) {j k : Nat} (h : j ≠ k) : n + j ≠ n + k := by omega
theorem ad0 (n : Nat) {k : Nat} (h : 0 < k) : n + k ≠ n := by omega
theorem nin2 {c x y : Addr} (h1 : c ≠ x) (h2 : c ≠ y) : c ∉ [x, y] := fun h => by
  rcases List.mem_cons.mp h with e | h
  · exact h1 e
  · exact h2 (List.mem_singleton.mp h)
end K1
namespace K1
open PySem PySem.Spec PyProof.Rows L2
/-! ### the dice -/
def IsDice (H : Hp) (l : Addr) : Prop := ∃ a b k : Int, H l = some (.lst [.int a, .int b, .int k])
/-- all stays but the dice -/
def Mu (T : Tbl) (l : Addr) (H H' : Hp) : Prop := (∀ b o, b ≠ l → H b = some o → (∀ ps, o ≠ .tbl ps) → H' b = some o) ∧ (Tb T H → Tb T H') ∧ (IsDice H l → IsDice H' l)
section
variable {T : Tbl} {H H1 H2 : Hp} {l : Addr}
theorem Mu.refl : Mu T l H H := ⟨fun _ _ _ e _ => e, id, id⟩
theorem Mu.trans (a : Mu T l H H1) (b : Mu T l H1 H2) : Mu T l H H2 := ⟨fun c o n e t => b.1 c o n (a.1 c o n e t) t, fun h => b.2.1 (a.2.1 h), fun h => b.2.2 (a.2.2 h)⟩
theorem Gr.mu (g : Gr T H H1) : Mu T l H H1 := ⟨fun b o _ e n => g.1 b o e n, g.2, fun ⟨a, b, k, h⟩ => ⟨a, b, k, g.lsts h⟩⟩
theorem Mu.set {a b k a' b' k' : Int} (h : H l = some (.lst [.int a, .int b, .int k])) : Mu T l H (upd H l (.lst [.int a', .int b', .int k'])) := by
  refine ⟨fun c o n e _ => by rw [upd_ne n]; exact e, fun t => ?_, fun _ => ⟨a', b', k', upd_same⟩⟩
  have ne : ∀ b u, H b = some u → (∀ ys, u ≠ .lst ys) → b ≠ l := fun b u e n z => by
    rw [z, h] at e
    exact n _ (Option.some.inj e).symm
  intro p hp
  obtain ⟨rs, a1, a2, a3⟩ := t p hp
  refine ⟨rs, by rw [upd_ne (ne _ _ a1 fun _ z => by cases z)]; exact a1, a2, fun pos cv hc => ?_⟩
  obtain ⟨c, b1, b2⟩ := a3 pos cv hc
  exact ⟨c, b1, by rw [upd_ne (ne _ _ b2 fun ys z => by unfold LamX.CodeO at z; cases z)]; exact b2⟩
theorem Mu.stt (m : Mu T l H H1) (h : IsDice H l) : StT H H1 := fun a xs e => m.1 a _ (fun z => by
  obtain ⟨a', b, k, h⟩ := h
  rw [z, h] at e
  cases e) e fun ps z => (by cases z)
theorem Mu.lsts (m : Mu T l H H1) {a : Addr} {xs : List V} (h : H a = some (.lst xs)) (n : a ≠ l) : H1 a = some (.lst xs) := m.1 a _ n h fun ps z => (by cases z)
theorem Mu.dx (m : Mu T l H H1) (h : IsDice H l) {v : V} {d : PyData} (n : nl d = true) (hd : Dx H v d) : Dx H1 v d := Dx.stt (m.stt h) d v n hd
end
section
variable {T : Tbl} {K : PySem.W.Frag} {σ : L2.St} {H H' : Hp} {te ta tb : TE} {d e r : PyData}
theorem ed_int1 {i : Int} (h : ED T te σ H (.int i)) : ED T (tCB (fun xs H Q => (∃ i, xs = [.int i] ∧ Q (.int i) H) ∨ ∃ k, xs = [.bl k] ∧ Q (.int (if k then 1 else 0)) H) (tCons te tNil)) σ H (.int i) := fun H1 g Q q =>
  h H1 g _ fun v H2 g2 hv => by cases hv; exact .inl ⟨i, rfl, q _ H2 g2 (.int i)⟩
theorem ed_intB {b : Bool} (h : ED T te σ H (.bool b)) : ED T (tCB (fun xs H Q => (∃ i, xs = [.int i] ∧ Q (.int i) H) ∨ ∃ k, xs = [.bl k] ∧ Q (.int (if k then 1 else 0)) H) (tCons te tNil)) σ H (.int (if b then 1 else 0)) := fun H1 g Q q =>
  h H1 g _ fun v H2 g2 hv => by cases hv; exact .inr ⟨b, rfl, q _ H2 g2 (.int _)⟩
theorem ed_abs {i : Int} (h : ED T te σ H (.int i)) : ED T (tCB (fun xs H Q => ∃ i, xs = [.int i] ∧ Q (.int (if i < 0 then -i else i)) H) (tCons te tNil)) σ H (.int (if i < 0 then -i else i)) := fun H1 g Q q =>
  h H1 g _ fun v H2 g2 hv => by cases hv; exact ⟨i, rfl, q _ H2 g2 (.int _)⟩
end
abbrev sDice : Stmt := topS 33
theorem scDice : FnScope ["cell"] ["cell"] (defScope sDice) := ⟨rfl, rfl, rfl, by decide +kernel, rfl, by decide +kernel, by decide +kernel⟩
def diceOf (c : Int) : List PyData := if (decide ((0 - 10 : Int) < c) && decide (c < 10)) = true then [.int (if c < 0 then -c else c), .int 0, .int 2] else [.int c, .int (1 + c % 1009), .int (if decide ((10 : Int) ^ (18 : Int).toNat ≤ c) then 1 else 0)]
def rDice : List PyData → PyData → Prop := fun ds r => ∃ c : Int, ds = [.int c] ∧ r = .list (diceOf c)
abbrev sRoll : Stmt := topS 34
theorem scRoll : FnScope ["dice", "many", "found"] ["dice", "many"] (defScope sRoll) := ⟨rfl, rfl, rfl, by decide +kernel, rfl, by decide +kernel, by decide +kernel⟩
def spRoll (T : Tbl) : Sp := fun vs H Q _ => ∃ (l : Addr) (m : Int), vs = [.ref l, .int m] ∧ 1 ≤ m ∧ m ≤ 1000 ∧ IsDice H l ∧ ∀ (r : Int) (H' : Hp), 0 ≤ r → r < m → Mu T l H H' → Q (.int r) H'
section
variable {P : Program} {w : World} {K : PySem.W.Frag} {mg : Str → Option Value} {base : Heap} {T : Tbl} {f : Addr} {fd : FuncData}
theorem ok_dice (F : Fun K "_law_dice" "_law_dice" sDice f fd) (ma : mg "abs" = none) (mi : mg "int" = none) : FnOk P w K mg base CX0 1 f fd ["cell"] (spF T rDice) := by
  refine mkF F scDice (fun ds r ⟨d, e, _⟩ => by rw [e]; rfl) (fun cdv A outer s H vs E ds r hr hR hd hT => ?_)
  obtain ⟨c, rfl, rfl⟩ := hR
  obtain ⟨v, rfl, hv⟩ := dxA1 hd
  refine ⟨_, pss_cons (ps_if (pt_chain op_lt op_lt (pe_op op_sub pe_int pe_int) (pv 0) pe_int) (pss_one (ps_ret (pe_lst (pa_cons (pe_callB call_abs rfl ma PyProof.Rows.boot_abs (pa_cons (pv 0) pa_nil)) (pa_cons pe_int (pa_cons pe_int pa_nil)))))) pss_nil)
    (pss_one (ps_ret (pe_lst (pa_cons (pv 0) (pa_cons (pe_op op_add pe_int (pe_op op_mod (pe_callTy call_int1 rfl mi boot_int (pa_cons (pv 0) pa_nil)) pe_int)) (pa_cons (pe_callTy call_int1 rfl mi boot_int (pa_cons (pe_cmpR op_ge (pv 0) (pe_op op_pow pe_int pe_int) (nomark _)) pa_nil)) pa_nil)))))), ?_⟩
  refine rd_when (b := (decide ((0 - 10 : Int) < c) && decide (c < 10))) (et_test ?_) (fun h H1 g1 => ?_) (fun h H1 g1 => ?_)
  · intro H1 g1 Q q
    refine (ed_sub (T := T) (ed_int (i := 0)) (ed_int (i := 10))) H1 (Gr.refl _) _ fun v1 H2 g2 hv1 => ?_
    cases hv1
    cases hv
    refine ⟨_, rfl, _, _, rfl, rfl, _, rfl, ?_⟩
    refine ite2 (fun h => ?_) (fun h => ?_)
    · refine ⟨_, _, rfl, rfl, ?_⟩
      have e : (decide ((0 - 10 : Int) < c) && decide (c < 10)) = decide (c < 10) := by rw [show decide ((0 - 10 : Int) < c) = true from h]; rfl
      rw [e] at q
      exact q _ H2 g2 (.bl _)
    · have e : (decide ((0 - 10 : Int) < c) && decide (c < 10)) = false := by rw [show decide ((0 - 10 : Int) < c) = false from by simpa using h]; rfl
      rw [e] at q
      exact q _ H2 g2 (.bl _)
  · refine rd_ret (ed_is (ed_lst (eda_cons (ed_abs (ed_var rfl (g1.dx hv))) (eda_cons ed_int (eda_cons ed_int eda_nil)))) ?_)
    unfold diceOf
    rw [if_pos h]
  · have hv := g1.dx hv
    refine rd_ret (ed_is (ed_lst (eda_cons (ed_var rfl hv) (eda_cons (ed_add ed_int (ed_I (d := .int (c % 1009)) (ed_int1 (ed_var rfl hv)) ed_int (by decide) fun _ => .int _)) (eda_cons (ed_intB (ed_ge (ed_var rfl hv) (ed_I (d := .int (10 ^ (18 : Int).toNat)) ed_int ed_int (by unfold CPow; decide) fun _ => .int _))) eda_nil)))) ?_)
    exact congrArg PyData.list (if_neg (c := (decide ((0 - 10 : Int) < c) && decide (c < 10)) = true) (by rw [h]; exact Bool.false_ne_true)).symm
theorem ok_roll (F : Fun K "_law_roll" "_law_roll" sRoll f fd) (mi : mg "int" = none) : FnOk P w K mg base CX0 1 f fd ["dice", "many"] (spRoll T) := by
  refine F.ok scRoll (fun vs H Q E ⟨l, m, e, _⟩ => by rw [e]; rfl) (fun cdv A outer s H vs Q E hr h => ?_)
  obtain ⟨l, m, rfl, hm1, hm2, ⟨a, b, k, hl⟩, q⟩ := h
  have px : ∀ {X : Cx} (i : Nat) {x : Str} {c : Int} {j : Nat} {pos p2 p3 : Pos}, X.N[i]? = some x → Vis X.env.scope x → (x == ("__debug__" : Str)) = false → (x == ("__classdict__" : Str)) = false → PE X (.Subscript (.Name x pos) (.Constant (.int c) j p2) p3) (tOp (rIxL X.K) (tVar i) (tC (.int c))) := fun {X} i {x c j pos p2 p3} h1 h2 h3 h4 => pe_ix ix_list (pv i h1 h2 h3 h4) pe_int (fun _ _ => rfl)
  have pd : ∀ {c : Int} {j : Nat} {pos p2 p3 : Pos}, PE (cxOf CX0 P w K mg base ["dice", "many", "found"] "_law_roll" (defScope sRoll) f cdv A outer s H E).nox (.Subscript (.Name "dice" pos) (.Constant (.int c) j p2) p3) (tOp (rIxL K) (tVar 0) (tC (.int c))) := fun {c j pos p2 p3} => px (X := (cxOf CX0 P w K mg base ["dice", "many", "found"] "_law_roll" (defScope sRoll) f cdv A outer s H E).nox) 0 rfl (.inl rfl) (by decide) (by decide)
  refine ⟨_, pss_cons (ps_if (PW.pt (pw_or (pt_cmpR op_eq pd pe_int (nomark _)) (pw_or1 (PW.pt (pw_and (pt_cmpR op_eq pd pe_int (nomark _)) (pw_and1 (pt_cmpR op_gt pd pe_int (nomark _))))))))
      (pss_cons (ps_set (i := 2) scRoll.nd rfl (.inl rfl) (pe_op op_mod (pe_callTy call_int1 rfl mi boot_int (pa_cons pd pa_nil)) (pv 1)))
      (pss_cons (ps_asg (pe_op op_fdivW pd (pv 1)) (pg_sub (pv 0) pe_int set_list))
      (pss_one (ps_ret (pv 2))))) pss_nil)
    (pss_cons (ps_asg pe_int (pg_sub (pv 0) pe_int set_list))
    (pss_cons (ps_asg (pe_op op_mod (pe_callTy call_int1 rfl mi boot_int (pa_cons (pe_op op_add (pe_op op_add (pe_op op_mul pd pe_int) (pe_op op_mul pd pe_int)) pe_int) pa_nil)) pe_int) (pg_sub (pv 0) pe_int set_list))
    (pss_cons (ps_asg (pe_op op_add pd pe_int) (pg_sub (pv 0) pe_int set_list))
    (pss_one (ps_ret (pe_op op_mod (pe_callTy call_int1 rfl mi boot_int (pa_cons (pe_op op_fdivW pd pe_int) pa_nil)) (pv 1))))))), ?_⟩
  have hdx : ∀ {H' : Hp} {a b k : Int}, H' l = some (.lst [.int a, .int b, .int k]) → Dx H' (.ref l) (.list [.int a, .int b, .int k]) := fun h => .lst h (.cons (.int _) (.cons (.int _) (.cons (.int _) .nil)))
  have x0 : ∀ {σ : L2.St} {H' : Hp} {a b k : Int}, σ[0]? = some (some (.ref l)) → H' l = some (.lst [.int a, .int b, .int k]) → ED T (tOp (rIxL K) (tVar 0) (tC (.int 0))) σ H' (.int a) := fun h1 h2 => ed_xl h1 (hdx h2) rfl
  have x1 : ∀ {σ : L2.St} {H' : Hp} {a b k : Int}, σ[0]? = some (some (.ref l)) → H' l = some (.lst [.int a, .int b, .int k]) → ED T (tOp (rIxL K) (tVar 0) (tC (.int 1))) σ H' (.int b) := fun h1 h2 => ed_xl h1 (hdx h2) rfl
  have x2 : ∀ {σ : L2.St} {H' : Hp} {a b k : Int}, σ[0]? = some (some (.ref l)) → H' l = some (.lst [.int a, .int b, .int k]) → ED T (tOp (rIxL K) (tVar 0) (tC (.int 2))) σ H' (.int k) := fun h1 h2 => ed_xl h1 (hdx h2) rfl
  have small : ∀ {i : Int}, CDivW i m := fun {i} => by
    refine wide_div (b := 10) (by omega) ?_ (by decide) (by decide)
    have : m.natAbs ≤ 1000 := by omega
    exact Nat.lt_of_le_of_lt this (by decide)
  refine (et_or (T := T) (et_test (ed_eqI (x2 (σ := [some (.ref l), some (.int m), none]) rfl hl) ed_int)) (fun _ => et_and (et_test (ed_eqI (x2 rfl hl) ed_int)) (fun _ => et_test (ed_gt (x0 rfl hl) ed_int)))) H (Gr.refl H) _ fun H1 g1 => ?_
  have hl1 := g1.lsts hl
  refine ite2 (fun hc => ?_) (fun hc => ?_)
  · refine s_set (T := T) (d := .int (a % m)) (ed_I (ed_int1 (x0 rfl hl1)) (ed_var (d := .int m) rfl (.int _)) (by show 0 < m; omega) fun _ => .int _) fun v2 H2 g2 hv2 => ?_
    cases hv2
    have hl2 := g2.lsts hl1
    refine (ed_I (T := T) (C := CDivW) (f := fun i j => .int (i / j)) (d := .int (a / m)) (x0 (σ := [some (.ref l), some (.int m), some (.int (a % m))]) rfl hl2) (ed_var (i := 1) (d := .int m) rfl (.int _)) small fun _ => .int _) H2 (Gr.refl H2) _ fun v3 H3 g3 hv3 => ?_
    cases hv3
    have hl3 := g3.lsts hl2
    refine ⟨_, rfl, l, _, 0, 0, rfl, rfl, hl3, rfl, ?_⟩
    refine ⟨_, rfl, q (a % m) _ (Int.emod_nonneg _ (by omega)) (Int.emod_lt_of_pos _ (by omega)) (((g1.trans g2).trans g3).mu.trans (Mu.set hl3))⟩
  · refine ⟨_, rfl, l, _, 2, 2, rfl, rfl, hl1, rfl, ?_⟩
    have M1 : Mu T l H _ := g1.mu.trans (Mu.set (T := T) (a' := a) (b' := b) (k' := 0) hl1)
    have hl2 : (upd H1 l (.lst [.int a, .int b, .int 0])) l = some (.lst [.int a, .int b, .int 0]) := upd_same
    refine (ed_I (T := T) (C := fun _ j => 0 < j) (f := fun i j => .int (i % j)) (d := .int ((a * 48271 + b * 69621 + 11) % 2147483647)) (ed_int1 (ed_add (ed_add (ed_I (d := .int (a * 48271)) (x0 (σ := [some (.ref l), some (.int m), none]) rfl hl2) ed_int (.inr (by decide)) fun _ => .int _) (ed_I (d := .int (b * 69621)) (x1 rfl hl2) ed_int (.inr (by decide)) fun _ => .int _)) ed_int)) ed_int (by decide) fun _ => .int _) _ (Gr.refl _) _ fun v3 H3 g3 hv3 => ?_
    cases hv3
    have hl3 := g3.lsts hl2
    refine ⟨_, rfl, l, _, 0, 0, rfl, rfl, hl3, rfl, ?_⟩
    have M2 := (M1.trans g3.mu).trans (Mu.set (T := T) (a' := (a * 48271 + b * 69621 + 11) % 2147483647) (b' := b) (k' := 0) hl3)
    generalize (a * 48271 + b * 69621 + 11) % 2147483647 = a2 at M2 ⊢
    have hl4 : (upd H3 l (.lst [.int a2, .int b, .int 0])) l = some (.lst [.int a2, .int b, .int 0]) := upd_same
    refine (ed_add (T := T) (x1 (σ := [some (.ref l), some (.int m), none]) rfl hl4) ed_int) _ (Gr.refl _) _ fun v5 H5 g5 hv5 => ?_
    cases hv5
    have hl5 := g5.lsts hl4
    refine ⟨_, rfl, l, _, 1, 1, rfl, rfl, hl5, rfl, ?_⟩
    have M3 := (M2.trans g5.mu).trans (Mu.set (T := T) (a' := a2) (b' := b + 1) (k' := 0) hl5)
    have hl6 : (upd H5 l (.lst [.int a2, .int (b + 1), .int 0])) l = some (.lst [.int a2, .int (b + 1), .int 0]) := upd_same
    refine (ed_I (T := T) (C := fun _ j => 0 < j) (f := fun i j => .int (i % j)) (d := .int ((a2 / 7) % m)) (ed_int1 (ed_I (C := CDivW) (f := fun i j => .int (i / j)) (d := .int (a2 / 7)) (x0 (σ := [some (.ref l), some (.int m), none]) rfl hl6) ed_int (wide_div (b := 3) (by decide) (by decide) (by decide) (by decide)) fun _ => .int _)) (ed_var (i := 1) (d := .int m) rfl (.int _)) (by show 0 < m; omega) fun _ => .int _) _ (Gr.refl _) _ fun v7 H7 g7 hv7 => ?_
    cases hv7
    exact q _ _ (Int.emod_nonneg _ (by omega)) (Int.emod_lt_of_pos _ (by omega)) (M3.trans g7.mu)
end
end K1
namespace K1
open PySem PySem.Spec PyProof.Rows L2
/-! ### comprehensions over data -/
def WalkD (T : Tbl) (J : It) (H2 : Hp) (L : List PyData) : Prop := ∃ Gd Y, Walk J L.length Gd Y ∧ (∀ H3, Gr T H2 H3 → Gd H3) ∧ ∀ i H3 x H4, i < L.length → Gr T H2 H3 → Y i H3 x H4 → Gr T H3 H4 ∧ ∃ d, L[i]? = some d ∧ Dx H4 x d
def EI (T : Tbl) (wi : TI) (σ : L2.St) (H : Hp) (L : List PyData) : Prop := ∀ H1, Gr T H H1 → ∀ R : It → Hp → Prop, (∀ J H2, Gr T H1 H2 → WalkD T J H2 L → R J H2) → wi σ H1 R
section
variable {T : Tbl} {K : PySem.W.Frag} {σ : L2.St} {H H' : Hp} {te : TE} {tt : TT} {g : TG} {wi : TI} {vs : List Nat}
theorem EI.mono {L : List PyData} (gr : Gr T H H') (h : EI T wi σ H L) : EI T wi σ H' L := fun H1 a R q => h H1 (gr.trans a) R q
theorem ei_list {L : List PyData} (h : ED T te σ H (.list L)) : EI T (iList K te) σ H L := fun H1 g1 R q => h H1 g1 _ fun v H2 g2 hv => by
  cases hv with
  | @lst a xs _ ha hxs =>
  refine ⟨a, rfl, ⟨xs, SqL.of ha⟩, q _ H2 g2 ⟨_, _, hxs.length ▸ walk_list (xs := xs), fun H3 g3 => SqL.of (g3.lsts ha), fun i H3 x H4 hi g3 y => ?_⟩⟩
  obtain ⟨rfl, hx⟩ := y
  obtain ⟨d, hd⟩ : ∃ d, L[i]? = some d := ⟨_, List.getElem?_eq_getElem hi⟩
  obtain ⟨x', hx', hdx⟩ := hxs.get hd
  rw [hx] at hx'
  cases hx'
  exact ⟨Gr.refl _, d, hd, g3.dx hdx⟩
theorem ei_tup {L : List PyData} (h : ED T te σ H (.tuple L)) : EI T (iTup K te) σ H L := fun H1 g1 R q => h H1 g1 _ fun v H2 g2 hv => by
  cases hv with
  | @tup a xs _ ha hxs =>
  refine ⟨a, rfl, ⟨xs, SqT.of ha⟩, q _ H2 g2 ⟨_, _, hxs.length ▸ walk_tup (xs := xs), fun H3 g3 => SqT.of (g3.tups ha), fun i H3 x H4 hi g3 y => ?_⟩⟩
  obtain ⟨rfl, hx⟩ := y
  obtain ⟨d, hd⟩ : ∃ d, L[i]? = some d := ⟨_, List.getElem?_eq_getElem hi⟩
  obtain ⟨x', hx', hdx⟩ := hxs.get hd
  rw [hx] at hx'
  cases hx'
  exact ⟨Gr.refl _, d, hd, g3.dx hdx⟩
theorem ei_range {n : Nat} {ta : TA} (hn : n ≤ 1000) (h : EDA T ta σ H [.int n]) : EI T (iRng1 ta) σ H ((List.range n).map fun i => .int (i : Nat)) := fun H1 g1 R q => h H1 g1 _ fun vs H2 g2 hv => by
  obtain ⟨v, e, hv1⟩ := dxA1 hv
  have e2 : v = .int (n : Int) := by cases hv1; rfl
  subst e
  subst e2
  refine ⟨(n : Int), rfl, by omega, by omega, ?_⟩
  refine q _ H2 g2 ⟨fun _ => True, YFn fun i => .int (0 + (i : Nat)), ?_, fun H3 g3 => True.intro, fun i H3 x H4 hi g3 y => ?_⟩
  · rw [List.length_map, List.length_range]
    exact walk_range (lo := 0) (n := n)
  · obtain ⟨rfl, rfl⟩ := y
    rw [List.length_map, List.length_range] at hi
    refine ⟨Gr.refl _, .int (i : Nat), by rw [List.getElem?_map, List.getElem?_range hi]; rfl, ?_⟩
    show Dx H4 (.int ((0 : Int) + (i : Nat))) _
    rw [show (0 : Int) + (i : Nat) = (i : Nat) by omega]
    exact .int _
def chars (z : Str) : List PyData := z.cps.toList.map fun c => .str ⟨#[c]⟩
theorem ei_str {z : Str} (h : ED T te σ H (.str z)) : EI T (iStr te) σ H (chars z) := fun H1 g1 R q => h H1 g1 _ fun v H2 g2 hv => by
  cases hv
  refine ⟨z, rfl, q _ H2 g2 ⟨fun _ => True, fun i H v H' => H' = H ∧ ∃ c, z.cps[i]? = some c ∧ v = .str ⟨#[c]⟩, ?_, fun H3 g3 => True.intro, fun i H3 x H4 hi g3 y => ?_⟩⟩
  · unfold chars
    rw [List.length_map, Array.length_toList]
    exact walk_str
  · obtain ⟨rfl, c, hc, rfl⟩ := y
    exact ⟨Gr.refl _, .str ⟨#[c]⟩, by unfold chars; rw [List.getElem?_map, Array.getElem?_toList, hc]; rfl, .str _⟩
theorem take_filter_succ {α : Type} {L : List α} {b : α → Bool} {i : Nat} {a : α} (h : L[i]? = some a) : (L.take (i + 1)).filter b = (L.take i).filter b ++ (if b a = true then [a] else []) := by
  rw [List.take_succ, h, List.filter_append]
  congr 1
  cases e : b a <;> simp [e]
theorem ed_lc {α : Type} {L : List α} {f1 f2 : α → PyData} {b : α → Bool} (hi : EI T wi σ H (L.map f1)) (hl : L.length < 100000) (hn : ∀ a ∈ L, b a = true → nl (f2 a) = true)
    (hb : ∀ a ∈ L, ∀ x H3, Gr T H H3 → Dx H3 x (f1 a) → ∃ σ2, (∀ Q : L2.St → Hp → Prop, Q σ2 H3 → g x (wipe σ vs) H3 Q) ∧ wipe σ2 vs = wipe σ vs ∧ ET T tt σ2 H3 (b a) ∧ (b a = true → ED T te σ2 H3 (f2 a))) :
    ED T (tLc wi g tt te vs) σ H (.list ((L.filter b).map f2)) := fun H1 g1 Q q => hi H1 g1 _ fun J H2 g2 ⟨Gd, Y, W, hG, hY⟩ D hD => by
  rw [List.length_map] at W hY
  have nlt : ∀ i, nlA (((L.take i).filter b).map f2) = true := fun i => nlA_all fun x hx => by
    obtain ⟨a, ha, rfl⟩ := List.mem_map.mp hx
    have := List.mem_filter.mp ha
    exact hn a (List.mem_of_mem_take this.1) this.2
  refine lc_it W (fun i H3 => Gr T H2 H3 ∧ ∃ acc, H3 D = some (.lst acc) ∧ DxA H3 acc (((L.take i).filter b).map f2)) ⟨Gr.new hD, [], upd_same, .nil⟩ (fun i H3 _ h => hG H3 h.1) (fun i x H3 H4 hi h y => ?_) (fun H3 h => ?_)
  · obtain ⟨gr, acc, hacc, hdx⟩ := h
    obtain ⟨g4, d, hd, hx⟩ := hY i H3 x H4 hi gr y
    rw [List.getElem?_map] at hd
    obtain ⟨a, ha⟩ : ∃ a, L[i]? = some a := ⟨_, List.getElem?_eq_getElem hi⟩
    rw [ha] at hd
    cases hd
    have gr4 := gr.trans g4
    obtain ⟨σ2, h1, h2, h3, h5⟩ := hb a (List.mem_of_getElem? ha) x H4 ((g1.trans g2).trans gr4) hx
    refine h1 _ ⟨h2, h3 H4 (Gr.refl _) _ fun H5 g5 => ?_⟩
    have e := take_filter_succ (b := b) ha
    cases hba : b a with
    | false =>
      rw [if_neg Bool.false_ne_true]
      rw [hba, if_neg Bool.false_ne_true, List.append_nil] at e
      exact ⟨gr4.trans g5, acc, (g4.trans g5).lsts hacc, by rw [e]; exact (g4.trans g5).dxA hdx⟩
    | true =>
      rw [if_pos rfl]
      rw [hba, if_pos rfl] at e
      refine h5 hba H5 g5 _ fun v H6 g6 hv => ?_
      have g46 := (g4.trans g5).trans g6
      have hD6 := g46.lsts hacc
      have st := stt_mut (o := .lst (acc ++ [v])) hD6
      have hla : acc.length < 100000 := by
        rw [hdx.length, List.length_map]
        have h1 := List.length_filter_le b (L.take i)
        rw [List.length_take] at h1
        omega
      refine ⟨acc, hD6, lszl hla, (gr.trans g46).mut hD hD6, _, upd_same, ?_⟩
      have n2 := nlt (i + 1)
      rw [e, List.map_append] at n2 ⊢
      exact DxA.stt st _ _ n2 ((g46.dxA hdx).append (.cons hv .nil))
  · obtain ⟨gr, acc, hacc, hdx⟩ := h
    rw [List.take_length] at hdx
    exact q (.ref D) H3 (g2.trans gr) (.lst hacc hdx)
theorem filter_yes {α : Type} (L : List α) : L.filter (fun _ => true) = L := by
  induction L with
  | nil => rfl
  | cons a L ih => rw [List.filter_cons, if_pos rfl, ih]
theorem et_yes : ET T tYes σ H true := fun H1 g1 Q q => q H1 (Gr.refl _)
/-- all of them -/
theorem ed_lcA {α : Type} {L : List α} {f1 f2 : α → PyData} (hi : EI T wi σ H (L.map f1)) (hl : L.length < 100000) (hn : ∀ a ∈ L, nl (f2 a) = true)
    (hb : ∀ a ∈ L, ∀ x H3, Gr T H H3 → Dx H3 x (f1 a) → ∃ σ2, (∀ Q : L2.St → Hp → Prop, Q σ2 H3 → g x (wipe σ vs) H3 Q) ∧ wipe σ2 vs = wipe σ vs ∧ ED T te σ2 H3 (f2 a)) :
    ED T (tLc wi g tYes te vs) σ H (.list (L.map f2)) := by
  have h := ed_lc (b := fun _ => true) (tt := tYes) (g := g) (vs := vs) (te := te) hi hl (fun a ha _ => hn a ha) (fun a ha x H3 g3 hx => by
    obtain ⟨σ2, h1, h2, h3⟩ := hb a ha x H3 g3 hx
    exact ⟨σ2, h1, h2, et_yes, fun _ => h3⟩)
  rw [filter_yes] at h
  exact h
end
/-! ### the same with dice -/
section
variable {T : Tbl} {K : PySem.W.Frag} {σ : L2.St} {H H1 H2 H' : Hp} {l : Addr}
theorem Mu.new {p : Addr} {o : HO} (h : H p = none) : Mu T l H (upd H p o) := (Gr.new h).mu
theorem Mu.gr_of {H0 : Hp} (g : Gr T H0 H) (m : Mu T l H H1) (h0 : H0 l = none) : Gr T H0 H1 := ⟨fun b o e n => m.1 b o (ne_of_none e h0) (g.1 b o e n) n, fun t => m.2.1 (g.2 t)⟩
/-- a list at D (not known to H) is written -/
theorem Mu.mut {D : Addr} {xs : List V} {o : HO} (m : Mu T l H H1) (h0 : H D = none) (h1 : H1 D = some (.lst xs)) (n : l ≠ D) : Mu T l H (upd H1 D o) := by
  have ne : ∀ b u, H1 b = some u → (∀ ys, u ≠ .lst ys) → b ≠ D := fun b u e n z => by
    rw [z, h1] at e
    exact n xs (Option.some.inj e).symm
  refine ⟨fun b u nb e nt => by rw [upd_ne (ne_of_none e h0)]; exact m.1 b u nb e nt, fun t => ?_, fun d => ?_⟩
  · intro p hp
    obtain ⟨rs, a1, a2, a3⟩ := m.2.1 t p hp
    refine ⟨rs, by rw [upd_ne (ne _ _ a1 fun _ z => by cases z)]; exact a1, a2, fun pos cv hc => ?_⟩
    obtain ⟨c, b1, b2⟩ := a3 pos cv hc
    exact ⟨c, b1, by rw [upd_ne (ne _ _ b2 fun ys z => by unfold LamX.CodeO at z; cases z)]; exact b2⟩
  · obtain ⟨a, b, k, h⟩ := m.2.2 d
    exact ⟨a, b, k, by rw [upd_ne n]; exact h⟩
def MD (T : Tbl) (l : Addr) (te : TE) (σ : L2.St) (H : Hp) (Res : PyData → Prop) : Prop := ∀ H1, Mu T l H H1 → ∀ Q : VK, (∀ v H2 d, Mu T l H1 H2 → Res d → Dx H2 v d → Q v H2) → te σ H1 Q
end
section
variable {T : Tbl} {K : PySem.W.Frag} {σ : L2.St} {H H' : Hp} {l : Addr} {te : TE} {g : TG} {ta : TA} {i : Nat}
theorem wipe_set1 {x : V} : wipe ((wipe σ [i]).set i (some x)) [i] = wipe σ [i] := by
  show ((σ.set i none).set i (some x)).set i none = σ.set i none
  rw [List.set_set, List.set_set]
/-- [e for k in range(n)], e draws -/
theorem md_range {N : Nat} {Pn : Nat → Prop} {Res : Nat → PyData → Prop} (hN : N ≤ 1000) (hP : ∀ n, Pn n → n ≤ N) (hd : IsDice H l) (hn : ∀ k d, Res k d → nl d = true)
    (ht : ∀ H1, Mu T l H H1 → ∀ Q : List V → Hp → Prop, (∀ (n : Nat) H2, Pn n → Mu T l H1 H2 → Q [.int n] H2) → ta σ H1 Q)
    (he : ∀ k H1, k < N → Mu T l H H1 → MD T l te ((wipe σ [i]).set i (some (.int (k : Nat)))) H1 (Res k)) :
    MD T l (tLc (iRng1 ta) (gName i) tYes te [i]) σ H (fun r => ∃ ds, r = .list ds ∧ Pn ds.length ∧ ∀ k d, ds[k]? = some d → Res k d) := fun H1 m1 Q q => ht H1 m1 _ fun n H2 hpn m2 => by
  have hn2 := hP n hpn
  refine ⟨n, rfl, by omega, by omega, fun D hD => ?_⟩
  have hd2 : IsDice H2 l := m2.2.2 (m1.2.2 hd)
  have nD : l ≠ D := fun z => by
    obtain ⟨a, b, k, h⟩ := hd2
    rw [z, hD] at h
    cases h
  refine lc_it (walk_range (lo := 0) (n := n)) (fun k H3 => Mu T l H2 H3 ∧ ∃ acc ds, H3 D = some (.lst acc) ∧ DxA H3 acc ds ∧ ds.length = k ∧ ∀ j d, ds[j]? = some d → Res j d) ⟨Mu.new hD, [], [], upd_same, .nil, rfl, fun j d e => by simp at e⟩ (fun _ _ _ _ => True.intro) (fun k x H3 H4 hk h y => ?_) (fun H3 h => ?_)
  · obtain ⟨gr, acc, ds, hacc, hdx, hlen, hres⟩ := h
    obtain ⟨rfl, rfl⟩ := y
    refine ⟨wipe_set1, ?_⟩
    dsimp only [tYes]
    rw [if_pos rfl]
    rw [show (0 : Int) + (k : Nat) = (k : Nat) by omega]
    refine he k H4 (by omega) ((m1.trans m2).trans gr) H4 Mu.refl _ fun v H5 d m5 hr hv => ?_
    have hD5 := m5.lsts hacc (Ne.symm nD)
    have hd4 := gr.2.2 hd2
    have hla : acc.length < 100000 := by rw [hdx.length]; omega
    have nds : nlA ds = true := nlA_all fun x hx => by
      obtain ⟨j, hj, e⟩ := List.getElem_of_mem hx
      exact hn j x (hres j x (by rw [List.getElem?_eq_getElem hj, e]))
    have hdx5 := DxA.stt (m5.stt hd4) _ _ nds hdx
    have st := stt_mut (o := .lst (acc ++ [v])) hD5
    refine ⟨acc, hD5, lszl hla, (gr.trans m5).mut hD hD5 nD, _, ds ++ [d], upd_same, ?_, by rw [List.length_append, hlen]; rfl, fun j e h => ?_⟩
    · exact DxA.stt st _ _ (by rw [nlA_append, nds]; show (true && (nl d && true)) = true; rw [hn _ _ hr]; rfl) (hdx5.append (.cons hv .nil))
    · rcases Nat.lt_or_ge j ds.length with h1 | h1
      · rw [List.getElem?_append_left h1] at h
        exact hres j e h
      · rw [List.getElem?_append_right h1] at h
        rcases Nat.eq_or_lt_of_le h1 with h2 | h2
        · rw [← h2, Nat.sub_self] at h
          cases h
          rw [← h2, hlen]
          exact hr
        · rw [List.getElem?_eq_none (by simp; omega)] at h
          cases h
  · obtain ⟨gr, acc, ds, hacc, hdx, hlen, hres⟩ := h
    exact q (.ref D) H3 (.list ds) (m2.trans gr) ⟨ds, rfl, by rw [hlen]; exact hpn, hres⟩ (.lst hacc hdx)
end
end K1
namespace K1
open PySem PySem.Spec PyProof.Rows L2
/-! ### rounds -/
abbrev sRounds : Stmt := topS 35
theorem scRounds : FnScope ["script", "most", "cells", "cell"] ["script", "most"] (defScope sRounds) := ⟨rfl, rfl, rfl, by decide +kernel, rfl, by decide +kernel, by decide +kernel⟩
def spRounds (K : PySem.W.Frag) (T : Tbl) : Sp := fun vs H Q _ => ∃ (a : Addr) (ns : List Int), vs = [.ref a, .int 1] ∧ SqL K H a (ns.map V.int) ∧ Tb T H ∧ ∀ (p d : Addr) (H' : Hp), Gr T H H' → H' p = some (.lst [.ref d]) → IsDice H' d → Q (.ref p) H'
section
variable {P : Program} {w : World} {K : PySem.W.Frag} {mg : Str → Option Value} {base : Heap} {T : Tbl} {f fdc : Addr} {fd fdcd : FuncData}
theorem diceOf_three (c : Int) : ∃ a b k : Int, diceOf c = [.int a, .int b, .int k] := by
  unfold diceOf
  split
  · exact ⟨_, _, _, rfl⟩
  · exact ⟨_, _, _, rfl⟩
theorem eqv_nil1 (c : Int) : PyData.eqv (.list [.int c]) (.list []) = false := rfl
theorem ok_rounds (F : Fun K "_law_rounds" "_law_rounds" sRounds f fd) (GD : FnOk P w K mg base CX0 1 fdc fdcd ["cell"] (spF T rDice)) (CD : Cal K mg "_law_dice" fdc fdcd ["cell"]) : FnOk P w K mg base CX0 2 f fd ["script", "most"] (spRounds K T) := by
  refine F.ok scRounds (fun vs H Q E ⟨l, m, e, _⟩ => by rw [e]; rfl) (fun cdv A outer s H vs Q E hr h => ?_)
  obtain ⟨a, ns, rfl, hS, hT, q⟩ := h
  have hu : (A.deeper (envOfC "_law_rounds" (defScope sRounds) s.heap.objs.size f cdv)).units + 64 < cLine := by have := hr.un; omega
  refine ⟨_, pss_cons (ps_set (i := 2) scRounds.nd rfl (.inl rfl) (pe_slice sl_list (pv 0) po_none (po_some (pv 1))))
    (pss_cons (ps_if (pt_cmpR (op_eqD hu) (pv 2) (pe_lst pa_nil) (nomark _)) (pss_one (ps_set (i := 2) scRounds.nd rfl (.inl rfl) (pe_lst (pa_cons pe_int pa_nil)))) pss_nil)
    (pss_one (ps_ret (pe_lc (own := [("cell", 3)]) (g := gName 3) (tt := tYes) rfl scRounds.nd (pi_list (pv 2)) (blkOk_by (N := ["script", "most", "cells", "cell"]) (sc := defScope sRounds) (by decide +kernel)) (fun _ _ _ _ _ => pg_name (i := 3) scRounds.nd rfl (Or.inl rfl)) (fun _ _ _ _ _ => pts_nil)
      (fun _ _ _ _ _ => pe_call GD hr rfl CD.m CD.kp CD.b .nil pass0 (pa_cons (pv 3) pa_nil)))))), ?_⟩
  refine ⟨_, rfl, _, rfl, 1, rfl, a, _, rfl, hS, fun p hp => ?_⟩
  have g1 : Gr T H (upd H p (.lst (cutV (ns.map V.int) none (some 1)))) := Gr.new hp
  have ec : cutV (ns.map V.int) none (some 1) = (ns.take 1).map V.int := by
    unfold cutV
    rw [show (some (1 : Int)) = some ((1 : Nat) : Int) from rfl, HT.sIx_nat, HT.sIx_none, List.length_map, List.drop_zero, Nat.sub_zero, List.map_take]
    cases ns with
    | nil => rfl
    | cons n ns => simp
  rw [ec] at g1 ⊢
  have hH1 : (upd H p (.lst ((ns.take 1).map V.int))) p = some (.lst ((ns.take 1).map V.int)) := upd_same
  generalize hH1' : upd H p (.lst ((ns.take 1).map V.int)) = H1 at g1 hH1 ⊢
  -- the comprehension
  have fin : ∀ (p : Addr) (c : Int) (c3 : Option V) (H2 : Hp), Gr T H H2 → H2 p = some (.lst [.int c]) →
      tLc (iList K (tVar 2)) (gName 3) tYes (tCall (spF T rDice) [] E0 (tCons (tVar 3) tNil)) [3] [some (.ref a), some (.int 1), some (.ref p), c3] H2 Q := fun p c c3 H2 g2 hp2 => by
    refine ⟨_, rfl, p, rfl, ⟨_, SqL.of hp2⟩, fun D hD => ?_⟩
    refine lc_list (K := K) (xs := [.int c]) (fun i H3 => Gr T H2 H3 ∧ ((i = 0 ∧ H3 D = some (.lst [])) ∨ (i = 1 ∧ ∃ d, H3 D = some (.lst [.ref d]) ∧ IsDice H3 d))) ⟨Gr.new hD, .inl ⟨rfl, upd_same⟩⟩ (fun i H3 _ h => SqL.of (h.1.lsts hp2)) (fun i x H3 hx h => ?_) (fun H3 h => ?_)
    · have hi := (List.getElem?_eq_some_iff.mp hx).1
      have hi0 : i = 0 := by simpa using hi
      subst hi0
      obtain ⟨g3, h⟩ := h
      rcases h with ⟨_, h3⟩ | ⟨z, _⟩
      · cases hx
        refine ⟨rfl, ?_⟩
        dsimp only [tYes]
        rw [if_pos rfl]
        refine ed_call (T := T) (R := rDice) (dd := []) (ds := [.int c]) ((g2.trans g3).2 hT) (eda_cons (ed_var (i := 3) rfl (.int c)) eda_nil) (fun _ => .nil) ⟨c, rfl, rfl⟩ H3 (Gr.refl _) _ fun v H4 g4 hv => ?_
        obtain ⟨x, y, z, e3⟩ := diceOf_three c
        rw [e3] at hv
        cases hv with
        | @lst d xs _ hd hxs =>
        obtain ⟨v1, v2, v3, rfl, h1, h2, h3'⟩ := dxA3 hxs
        cases h1; cases h2; cases h3'
        have hD4 := g4.lsts h3
        have nd : d ≠ D := fun z => by
          rw [z, hD4] at hd
          cases hd
        refine ⟨[], hD4, lszl (by decide), (g3.trans g4).mut hD hD4, .inr ⟨rfl, d, upd_same, x, y, z, ?_⟩⟩
        rw [upd_ne nd]
        exact hd
      · cases z
    · obtain ⟨g3, h⟩ := h
      rcases h with ⟨z, _⟩ | ⟨_, d, h1, h2⟩
      · cases z
      · exact q D d H3 (g2.trans g3) h1 h2
  have hcase : (∃ c, (ns.take 1).map V.int = [.int c] ∧ Dx H1 (.ref p) (.list [.int c])) ∨ ((ns.take 1).map V.int = [] ∧ Dx H1 (.ref p) (.list [])) := by
    cases ns with
    | nil => exact .inr ⟨rfl, .lst hH1 .nil⟩
    | cons n ns => exact .inl ⟨n, by simp, .lst hH1 (by simpa using .cons (.int n) .nil)⟩
  rcases hcase with ⟨c, e1, h1⟩ | ⟨e1, h1⟩
  · refine (et_test (T := T) (ed_eqD (d := .list [.int c]) (e := .list []) (ed_var (i := 2) (σ := [some (.ref a), some (.int 1), some (.ref p), none]) rfl h1) (ed_lst eda_nil) (shaped_lst (n := 0) (fun d hd => by rw [List.mem_singleton.mp hd]; exact ⟨rfl, Nat.le_refl _⟩) (by decide)) (by decide))) H1 (Gr.refl _) _ fun H2 g2 => ?_
    rw [eqv_nil1]
    rw [if_neg Bool.false_ne_true]
    exact fin p c none H2 (g1.trans g2) (g2.lsts (by rw [← e1]; exact hH1))
  · refine (et_test (T := T) (ed_eqD (d := .list []) (e := .list []) (ed_var (i := 2) (σ := [some (.ref a), some (.int 1), some (.ref p), none]) rfl h1) (ed_lst eda_nil) (by decide) (by decide))) H1 (Gr.refl _) _ fun H2 g2 => ?_
    rw [show PyData.eqv (.list []) (.list []) = true from rfl, if_pos rfl]
    refine ⟨szl (by decide), fun p2 hp2 => ?_⟩
    exact fin p2 0 none _ ((g1.trans g2).trans (Gr.new hp2)) upd_same
end
end K1
namespace K1
open PySem PySem.Spec PyProof.Rows L2
/-! ### drawing: the rules -/
def MDA (T : Tbl) (l : Addr) (ta : TA) (σ : L2.St) (H : Hp) (Res : List PyData → Prop) : Prop := ∀ H1, Mu T l H H1 → ∀ Q : List V → Hp → Prop, (∀ vs H2 ds, Mu T l H1 H2 → Res ds → DxA H2 vs ds → Q vs H2) → ta σ H1 Q
def MRD (T : Tbl) (l : Addr) (t : TS) (σ : L2.St) (H : Hp) (Res : PyData → Prop) : Prop := ∀ D : Ends, (∀ v H' d, Mu T l H H' → Res d → Dx H' v d → D.rt v H') → t D σ H
section
variable {T : Tbl} {K : PySem.W.Frag} {σ : L2.St} {H H' : Hp} {l : Addr} {ta tb te : TE} {ts tr : TA} {t : TT} {tz tu : TS} {R1 R2 R3 Res : PyData → Prop} {Ra Rb : List PyData → Prop}
theorem MD.mono (m : Mu T l H H') (h : MD T l te σ H Res) : MD T l te σ H' Res := fun H1 a Q q => h H1 (m.trans a) Q q
theorem MDA.mono (m : Mu T l H H') (h : MDA T l ts σ H Ra) : MDA T l ts σ H' Ra := fun H1 a Q q => h H1 (m.trans a) Q q
theorem md_imp (h : MD T l te σ H R1) (i : ∀ d, R1 d → R2 d) : MD T l te σ H R2 := fun H1 m Q q => h H1 m Q fun v H2 d m2 r hv => q v H2 d m2 (i d r) hv
theorem mda_imp (h : MDA T l ts σ H Ra) (i : ∀ d, Ra d → Rb d) : MDA T l ts σ H Rb := fun H1 m Q q => h H1 m Q fun v H2 d m2 r hv => q v H2 d m2 (i d r) hv
theorem md_str {x : Str} : MD T l (tC (.str x)) σ H (· = .str x) := fun H1 _ Q q => q _ H1 _ Mu.refl rfl (.str x)
theorem md_int {i : Int} : MD T l (tC (.int i)) σ H (· = .int i) := fun H1 _ Q q => q _ H1 _ Mu.refl rfl (.int i)
theorem md_var {i : Nat} {v : V} {d : PyData} (hd : IsDice H l) (h : σ[i]? = some (some v)) (hv : Dx H v d) (n : nl d = true) : MD T l (tVar i) σ H (· = d) := fun H1 m Q q => ⟨v, h, q v H1 d Mu.refl rfl (m.dx hd n hv)⟩
theorem mda_nil : MDA T l tNil σ H (· = []) := fun H1 _ Q q => q _ H1 [] Mu.refl rfl .nil
theorem mda_cons (hd : IsDice H l) (h : MD T l te σ H R1) (n : ∀ d, R1 d → nl d = true) (hr : MDA T l tr σ H Rb) : MDA T l (tCons te tr) σ H (fun ds => ∃ d es, ds = d :: es ∧ R1 d ∧ Rb es) := fun H1 m Q q =>
  h H1 m _ fun v H2 d m2 r1 hv => hr H2 (m.trans m2) _ fun vs H3 es m3 r2 hvs => q _ H3 _ (m2.trans m3) ⟨d, es, rfl, r1, r2⟩ (.cons (m3.dx (m2.2.2 (m.2.2 hd)) (n d r1) hv) hvs)
theorem md_tup (h : MDA T l ts σ H Ra) (hl : ∀ ds, Ra ds → ds.length ≤ 100000) : MD T l (tTup ts) σ H (fun d => ∃ ds, d = .tuple ds ∧ Ra ds) := fun H1 m Q q =>
  h H1 m _ fun vs H2 ds m2 r hv => ⟨szl (by rw [hv.length]; exact hl ds r), fun p hp => q _ _ _ (m2.trans (Mu.new hp)) ⟨ds, rfl, r⟩ (.tup upd_same ((Gr.new (T := T) hp).dxA hv))⟩
theorem md_lst (h : MDA T l ts σ H Ra) (hl : ∀ ds, Ra ds → ds.length ≤ 100000) : MD T l (tLst ts) σ H (fun d => ∃ ds, d = .list ds ∧ Ra ds) := fun H1 m Q q =>
  h H1 m _ fun vs H2 ds m2 r hv => ⟨szl (by rw [hv.length]; exact hl ds r), fun p hp => q _ _ _ (m2.trans (Mu.new hp)) ⟨ds, rfl, r⟩ (.lst upd_same ((Gr.new (T := T) hp).dxA hv))⟩
/-- "..."[e] -/
theorem md_ixS {z : Str} (hz : z.length ≤ 1000) (h : MD T l te σ H (fun d => ∃ r : Nat, r < z.cps.toList.length ∧ d = .int r)) : MD T l (tOp rIxS (tC (.str z)) te) σ H (fun d => ∃ c ∈ z.cps.toList, d = .str ⟨#[c]⟩) := fun H1 m Q q =>
  h H1 m _ fun v H2 d m2 ⟨r, hr, e⟩ hv => by
    subst e
    cases hv
    obtain ⟨c, hc⟩ : ∃ c, z.cps.toList[r]? = some c := ⟨_, List.getElem?_eq_getElem hr⟩
    exact ⟨z, r, c, rfl, rfl, szl (by omega), atI_nat hc, q _ H2 _ m2 ⟨c, List.mem_of_getElem? hc, rfl⟩ (.str _)⟩
/-- a list that is made, at a place that is drawn -/
theorem md_ixL (h : MD T l ta σ H (fun d => ∃ ds, d = .list ds ∧ Ra ds)) {i : Nat} {r : Nat} (hσ : σ[i]? = some (some (.int r))) (hr : ∀ ds, Ra ds → r < ds.length) : MD T l (tOp (rIxL K) ta (tVar i)) σ H (fun d => ∃ ds, Ra ds ∧ ds[r]? = some d) := fun H1 m Q q =>
  h H1 m _ fun v H2 d m2 ⟨ds, e, ra⟩ hv => by
    subst e
    refine ⟨_, hσ, ?_⟩
    cases hv with
    | @lst a xs _ ha hxs =>
    obtain ⟨d, hd⟩ : ∃ d, ds[r]? = some d := ⟨_, List.getElem?_eq_getElem (hr ds ra)⟩
    obtain ⟨x, hx, hdx⟩ := hxs.get hd
    exact ⟨a, xs, r, x, rfl, rfl, SqL.of ha, atI_nat hx, q x H2 d m2 ⟨ds, ra, hd⟩ hdx⟩
theorem md_roll {E : XK} {i : Nat} {m : Nat} (hd : IsDice H l) (hσ : σ[i]? = some (some (.ref l))) (hm : 1 ≤ m ∧ m ≤ 1000) : MD T l (tCall (spRoll T) [] E (tCons (tVar i) (tCons (tC (.int m)) tNil))) σ H (fun d => ∃ r : Nat, r < m ∧ d = .int r) := fun H1 mu Q q =>
  ⟨_, hσ, l, m, rfl, by omega, by omega, mu.2.2 hd, fun r H' h0 h1 m2 => by
    obtain ⟨n, rfl⟩ : ∃ n : Nat, r = n := ⟨r.toNat, by omega⟩
    exact q _ H' _ m2 ⟨n, by omega, rfl⟩ (.int _)⟩
/-! statements -/
theorem MRD.mono {H2 : Hp} (m : Mu T l H H2) (h : MRD T l tz σ H2 Res) : ∀ D : Ends, (∀ v H' d, Mu T l H H' → Res d → Dx H' v d → D.rt v H') → tz D σ H2 := fun D q => h D fun v H' d m2 r hv => q v H' d (m.trans m2) r hv
theorem mr_ret (h : MD T l te σ H Res) : MRD T l (tRet te) σ H Res := fun D q => h H Mu.refl _ q
theorem mr_asg {i : Nat} (h : MD T l te σ H R1) (k : ∀ v H1 d, Mu T l H H1 → R1 d → Dx H1 v d → MRD T l tz (σ.set i (some v)) H1 Res) : MRD T l (tSeq (tAsg te (gName i)) tz) σ H Res := fun D q =>
  h H Mu.refl _ fun v H1 d m r hv => k v H1 d m r hv D fun w H2 e m2 r2 hw => q w H2 e (m.trans m2) r2 hw
theorem mr_when {b : Bool} (h : ET T t σ H b) (h1 : b = true → ∀ H1, Gr T H H1 → MRD T l tu σ H1 Res) (h2 : b = false → ∀ H1, Gr T H H1 → MRD T l tz σ H1 Res) : MRD T l (tSeq (tIfS t tu tNext) tz) σ H Res := fun D q =>
  h H (Gr.refl H) _ fun H1 g => by
    cases b with
    | true => rw [if_pos rfl]; exact h1 rfl H1 g _ fun w H2 d m2 r hw => q w H2 d (g.mu.trans m2) r hw
    | false => rw [if_neg Bool.false_ne_true]; exact h2 rfl H1 g _ fun w H2 d m2 r hw => q w H2 d (g.mu.trans m2) r hw
theorem md_if {b : Bool} (h : ET T t σ H b) (hd : IsDice H l) (hg : ∀ H1, Mu T l H H1 → ET T t σ H1 b) (h1 : b = true → MD T l ta σ H Res) (h2 : b = false → MD T l tb σ H Res) : MD T l (tIf t ta tb) σ H Res := fun H1 m Q q => hg H1 m H1 (Gr.refl H1) _ fun H2 g => by
  cases b with
  | true => rw [if_pos rfl]; exact h1 rfl H2 (m.trans g.mu) _ fun v H3 d m3 r hv => q v H3 d (g.mu.trans m3) r hv
  | false => rw [if_neg Bool.false_ne_true]; exact h2 rfl H2 (m.trans g.mu) _ fun v H3 d m3 r hv => q v H3 d (g.mu.trans m3) r hv
end
/-! ### a drawn term -/
def cmx : Nat → Nat
  | 0 => 1
  | n + 1 => 1 + 3 * cmx n
theorem cmx_pos (n : Nat) : 1 ≤ cmx n := by cases n <;> simp [cmx] <;> omega
def clL (z : Str) : Lf → Prop
  | .sort _ => True
  | .cst c => c ≠ z
  | .rcr c _ => c ≠ z
/-- no constant is named so -/
def nzT (z : Str) : Tm → Prop
  | .var _ => True
  | .leaf l => clL z l
  | .bind _ _ k b => nzT z k ∧ nzT z b
  | .app f a => nzT z f ∧ nzT z a
  | .letE _ k v b => nzT z k ∧ nzT z v ∧ nzT z b
theorem one_ne (c : Nat) : (⟨#[c]⟩ : Str) ≠ "zero" := fun h => by
  have := congrArg (fun s : Str => s.cps.size) h
  exact absurd this (by show (1 : Nat) ≠ 4; decide)
structure TD (n : Nat) (t : Tm) : Prop where
  b : ∀ j, bnd 5 t j
  ok : TmOk t
  lv : Lv t
  dp : dep t ≤ n + 1
  ct : cnt t ≤ cmx n
  nz : nzT "zero" t
def RT (n : Nat) (d : PyData) : Prop := ∃ t, TD n t ∧ d = enc t
theorem RT.nl {n : Nat} {d : PyData} (h : RT n d) : nl d = true := by obtain ⟨t, _, rfl⟩ := h; exact nl_enc t
theorem abc_lay : ∀ c ∈ ("abc" : Str).cps.toList, (PyData.str ⟨#[c]⟩).canLay0 = true := by decide +kernel
theorem ab_lay : ∀ c ∈ ("ab" : Str).cps.toList, (PyData.str ⟨#[c]⟩).canLay0 = true := by decide +kernel
theorem xy_lay : ∀ c ∈ ("xy" : Str).cps.toList, (PyData.str ⟨#[c]⟩).canLay0 = true := by decide +kernel
theorem td_var {n r : Nat} (h : r < 5) : TD n (.var r) := ⟨fun j => by show r < 5 + j; omega, True.intro, True.intro, by simp [dep], cmx_pos n, True.intro⟩
theorem td_leaf {n : Nat} {l : Lf} (h : LfOk l) (h2 : LvL l) (h3 : clL "zero" l) : TD n (.leaf l) := ⟨fun j => True.intro, h, h2, by simp [dep], cmx_pos n, h3⟩
theorem td_bind {n : Nat} {p : Bool} {x : Str} {k b : Tm} (hx : (PyData.str x).canLay0 = true) (h1 : TD n k) (h2 : TD n b) : TD (n + 1) (.bind p x k b) :=
  ⟨fun j => ⟨h1.b j, h2.b (j + 1)⟩, ⟨hx, h1.ok, h2.ok⟩, ⟨h1.lv, h2.lv⟩, by have := h1.dp; have := h2.dp; simp only [dep]; omega, by have := h1.ct; have := h2.ct; simp only [cnt, cmx]; omega, ⟨h1.nz, h2.nz⟩⟩
theorem td_app {n : Nat} {k b : Tm} (h1 : TD n k) (h2 : TD n b) : TD (n + 1) (.app k b) :=
  ⟨fun j => ⟨h1.b j, h2.b j⟩, ⟨h1.ok, h2.ok⟩, ⟨h1.lv, h2.lv⟩, by have := h1.dp; have := h2.dp; simp only [dep]; omega, by have := h1.ct; have := h2.ct; simp only [cnt, cmx]; omega, ⟨h1.nz, h2.nz⟩⟩
theorem td_let {n : Nat} {x : Str} {k v b : Tm} (hx : (PyData.str x).canLay0 = true) (h1 : TD n k) (h2 : TD n v) (h3 : TD n b) : TD (n + 1) (.letE x k v b) :=
  ⟨fun j => ⟨h1.b j, h2.b j, h3.b (j + 1)⟩, ⟨hx, h1.ok, h2.ok, h3.ok⟩, ⟨h1.lv, h2.lv, h3.lv⟩, by have := h1.dp; have := h2.dp; have := h3.dp; simp only [dep]; omega, by have := h1.ct; have := h2.ct; have := h3.ct; simp only [cnt, cmx]; omega, ⟨h1.nz, h2.nz, h3.nz⟩⟩
theorem TD.up {n m : Nat} {t : Tm} (h : TD n t) (hm : n ≤ m) : TD m t := by
  induction m with
  | zero => have : n = 0 := by omega
            subst this; exact h
  | succ m ih =>
    by_cases e : n = m + 1
    · subst e; exact h
    · have q := ih (by omega)
      exact ⟨q.b, q.ok, q.lv, by have := q.dp; omega, by have := q.ct; simp only [cmx]; omega, q.nz⟩
def spTerm (T : Tbl) (n : Nat) : Sp := fun vs H Q _ => ∃ (l : Addr) (deep : Nat), vs = [.ref l, .int deep] ∧ deep < n ∧ IsDice H l ∧ Tb T H ∧ ∀ (t : Tm) (v : V) (H' : Hp), TD deep t → Mu T l H H' → Dx H' v (enc t) → Q v H'
abbrev sTerm : Stmt := topS 37
theorem scTerm : FnScope ["dice", "deep", "sort", "inner", "k"] ["dice", "deep"] (defScope sTerm) := ⟨rfl, rfl, rfl, by decide +kernel, rfl, by decide +kernel, by decide +kernel⟩
end K1
namespace K1
open PySem PySem.Spec PyProof.Rows L2
section
variable {T : Tbl} {K : PySem.W.Frag} {σ : L2.St} {H H' : Hp} {l : Addr} {ta tb te : TE} {ts tr : TA} {t : TT} {tz tu : TS} {R1 R2 R3 Res : PyData → Prop} {Ra Rb : List PyData → Prop}
theorem md_of_ed {d : PyData} (h : ∀ H1, Mu T l H H1 → ED T te σ H1 d) : MD T l te σ H (· = d) := fun H1 m Q q => h H1 m H1 (Gr.refl _) _ fun v H2 g hv => q v H2 d g.mu rfl hv
theorem md_xl {i : Nat} {a : Addr} {xs : List V} {ds : List PyData} {c : Nat} {d : PyData} (hd : IsDice H l) (hσ : σ[i]? = some (some (.ref a))) (ha : H a = some (.lst xs)) (hx : DxA H xs ds) (n : nlA ds = true) (hal : a ≠ l) (hc : ds[c]? = some d) : MD T l (tOp (rIxL K) (tVar i) (tC (.int (c : Nat)))) σ H (· = d) :=
  md_of_ed fun H1 m => ed_ixL (d := d) (ed_var (d := .list ds) hσ (.lst (m.lsts ha hal) (DxA.stt (m.stt hd) ds xs n hx))) ed_int (atI_nat hc)
theorem MDx {a : Addr} {xs : List V} {ds : List PyData} (hd : IsDice H l) (ha : H a = some (.lst xs)) (hx : DxA H xs ds) (h : ∀ d ∈ ds, ∃ t, d = enc t) (hne : ds ≠ []) : a ≠ l := fun z => by
  obtain ⟨p, q, k, hl⟩ := hd
  rw [z, hl] at ha
  cases ha
  cases ds with
  | nil => exact hne rfl
  | cons d ds =>
    obtain ⟨t, rfl⟩ := h d List.mem_cons_self
    cases hx with
    | cons a b =>
      cases t with
      | leaf l => cases l <;> cases a
      | _ => cases a
end
section
variable {P : Program} {w : World} {K : PySem.W.Frag} {mg : Str → Option Value} {base : Heap} {T : Tbl} {f fr : Addr} {fd frd : FuncData}
theorem ok_term1 {n : Nat} (F : Fun K "_law_term" "_law_term" sTerm f fd) (CT : Cal K mg "_law_term" f fd ["dice", "deep"]) (GT : FnOk P w K mg base CX0 (n + 1) f fd ["dice", "deep"] (spTerm T n)) (GR : FnOk P w K mg base CX0 1 fr frd ["dice", "many"] (spRoll T)) (CR : Cal K mg "_law_roll" fr frd ["dice", "many"]) (mr : mg "range" = none) :
    FnOk P w K mg base CX0 (n + 2) f fd ["dice", "deep"] (spTerm T (n + 1)) := by
  refine F.ok scTerm (fun vs H Q E ⟨l, m, e, _⟩ => by rw [e]; rfl) (fun cdv A outer s H vs Q E hr h => ?_)
  obtain ⟨l, deep, rfl, hdn, hD, hT, q⟩ := h
  have hr1 := hr.mono (show 1 ≤ n + 1 by omega)
  have pr : ∀ {c : Int} {j : Nat} {p1 p2 p3 p4 : Pos}, PE (cxOf CX0 P w K mg base ["dice", "deep", "sort", "inner", "k"] "_law_term" (defScope sTerm) f cdv A outer s H E).nox (.Call (.Name "_law_roll" p1) [.Name "dice" p2, .Constant (.int c) j p3] [] p4) (tCall (spRoll T) [] E0 (tCons (tVar 0) (tCons (tC (.int c)) tNil))) :=
    fun {c j p1 p2 p3 p4} => pe_call GR hr1 rfl CR.m CR.kp CR.b .nil pass0 (pa_cons (pv 0) (pa_cons pe_int pa_nil))
  suffices key : ∃ t, PSs (cxOf CX0 P w K mg base ["dice", "deep", "sort", "inner", "k"] "_law_term" (defScope sTerm) f cdv A outer s H E).nox (defBody sTerm) t ∧ MRD T l t [some (.ref l), some (.int deep), none, none, none] H (RT deep) by
    obtain ⟨t, h1, h2⟩ := key
    refine ⟨t, h1, h2 _ fun v H' d m ⟨t', ht, e⟩ hv => ?_⟩
    subst e
    exact q t' v H' ht m hv
  refine ⟨_, pss_cons (ps_set (i := 2) scTerm.nd rfl (.inl rfl) (pe_call GR hr1 rfl CR.m CR.kp CR.b .nil pass0 (pa_cons (pv 0) (pa_cons (pe_ifExp (pt_cmpR op_gt (pv 1) pe_int (nomark _)) pe_int pe_int) pa_nil))))
        (pss_cons (ps_if (pt_cmpR op_lt (pv 2) pe_int (nomark _)) (pss_one (ps_ret (pe_ix ix_list (pe_lst (pa_cons (pe_tup (pa_cons pe_str (pa_cons pr pa_nil))) (pa_cons (pe_tup (pa_cons pe_str (pa_cons pr pa_nil))) (pa_cons (pe_tup (pa_cons pe_str (pa_cons (pe_ix ix_str pe_str pr (fun _ _ => rfl)) pa_nil)))
            (pa_cons (pe_tup (pa_cons pe_str (pa_cons (pe_ix ix_str pe_str pr (fun _ _ => rfl)) (pa_cons pr pa_nil)))) pa_nil))))) (pv 2) (fun _ _ => rfl)))) pss_nil)
        (pss_cons (ps_setLc (i := 3) (own := [("k", 4)]) (g := gName 4) (tt := tYes) rfl scTerm.nd rfl rfl (sw_true rfl rfl rfl (by decide +kernel)) (pi_range1 rfl mr (pa_cons pe_int pa_nil)) (blkOk_by (N := ["dice", "deep", "sort", "inner", "k"]) (sc := defScope sTerm) (by decide +kernel)) (fun _ _ _ _ _ => pg_name (i := 4) scTerm.nd rfl (Or.inl rfl)) (fun _ _ _ _ _ => pts_nil)
          (fun _ _ _ _ _ => pe_call GT hr rfl CT.m CT.kp CT.b .nil pass0 (pa_cons (pv 0) (pa_cons (pe_op op_sub (pv 1) pe_int) pa_nil))))
        (pss_cons (ps_if (pt_cmpR op_eq (pv 2) pe_int (nomark _)) (pss_one (ps_ret (pe_tup (pa_cons pe_str (pa_cons (pe_ix ix_str pe_str pr (fun _ _ => rfl)) (pa_cons (pe_ix ix_list (pv 3) pe_int (fun _ _ => rfl)) (pa_cons (pe_ix ix_list (pv 3) pe_int (fun _ _ => rfl)) (pa_cons (pe_ix ix_list (pv 3) pe_int (fun _ _ => rfl)) pa_nil)))))))) pss_nil)
        (pss_one (ps_ret (pe_ifExp (pt_cmpR op_lt (pv 2) pe_int (nomark _)) (pe_tup (pa_cons pe_str (pa_cons (pe_ix ix_list (pv 3) pe_int (fun _ _ => rfl)) (pa_cons (pe_ix ix_list (pv 3) pe_int (fun _ _ => rfl)) pa_nil))))
          (pe_tup (pa_cons (pe_ix ix_list (pe_lst (pa_cons pe_str (pa_cons pe_str pa_nil))) (pe_op op_sub (pv 2) pe_int) (fun _ _ => rfl)) (pa_cons (pe_ix ix_str pe_str pr (fun _ _ => rfl)) (pa_cons (pe_ix ix_list (pv 3) pe_int (fun _ _ => rfl)) (pa_cons (pe_ix ix_list (pv 3) pe_int (fun _ _ => rfl)) pa_nil))))))))))), ?_⟩
  -- sort
  refine mr_asg (R1 := fun d => ∃ r : Nat, r < (if 0 < deep then 9 else 4) ∧ d = .int r) (fun H1 m1 Q1 q1 => ?_) fun v H1 d m1 ⟨r, hr9, e⟩ hv => ?_
  · refine ⟨_, rfl, ?_⟩
    refine (ed_if (T := T) (b := decide ((0 : Int) < (deep : Int))) (d := .int ((if 0 < deep then 9 else 4 : Nat) : Int)) (et_test (ed_gt (ed_var (i := 1) (σ := [some (.ref l), some (.int deep), none, none, none]) rfl (.int _)) ed_int)) (fun h => ed_is ed_int ?_) (fun h => ed_is ed_int ?_)) H1 (Gr.refl _) _ fun v2 H2 g2 hv2 => ?_
    · rw [if_pos (by have := of_decide_eq_true h; omega)]; rfl
    · rw [if_neg (by have := of_decide_eq_false h; omega)]; rfl
    · cases hv2
      refine ⟨l, _, rfl, by split <;> omega, by split <;> omega, (m1.trans g2.mu).2.2 hD, fun r H' h0 h1 m2 => ?_⟩
      obtain ⟨k, rfl⟩ : ∃ k : Nat, r = k := ⟨r.toNat, by omega⟩
      exact q1 _ H' _ (g2.mu.trans m2) ⟨k, by omega, rfl⟩ (.int _)
  subst e
  cases hv
  have hD1 := m1.2.2 hD
  refine mr_when (b := decide ((r : Int) < 4)) (et_test (ed_lt (ed_var (i := 2) rfl (.int _)) ed_int)) (fun hc H2 g2 => ?_) (fun hc H2 g2 => ?_)
  · have hr4 : r < 4 := by have := of_decide_eq_true hc; omega
    have hD2 := g2.mu.2.2 hD1
    have ro : ∀ {m : Nat}, 1 ≤ m ∧ m ≤ 1000 → MD T l (tCall (spRoll T) [] E0 (tCons (tVar 0) (tCons (tC (.int m)) tNil))) [some (.ref l), some (.int deep), some (.int r), none, none] H2 (fun d => ∃ r : Nat, r < m ∧ d = .int r) := fun h => md_roll (i := 0) hD2 rfl h
    have e1 : MD T l (tTup (tCons (tC (.str "var")) (tCons (tCall (spRoll T) [] E0 (tCons (tVar 0) (tCons (tC (.int (5 : Nat))) tNil))) tNil))) [some (.ref l), some (.int deep), some (.int r), none, none] H2 (RT deep) :=
      md_imp (md_tup (mda_cons hD2 md_str (fun d h => by rw [h]; rfl) (mda_cons hD2 (ro (m := 5) (by omega)) (fun d ⟨r, _, h⟩ => by rw [h]; rfl) mda_nil)) (fun ds h => by obtain ⟨_, _, rfl, _, _, _, rfl, _, rfl⟩ := h; simp)) (fun d h => by
        obtain ⟨ds, rfl, _, _, rfl, rfl, _, _, rfl, ⟨k, hk, rfl⟩, rfl⟩ := h
        exact ⟨.var k, td_var hk, rfl⟩)
    have e2 : MD T l (tTup (tCons (tC (.str "sort")) (tCons (tCall (spRoll T) [] E0 (tCons (tVar 0) (tCons (tC (.int (3 : Nat))) tNil))) tNil))) [some (.ref l), some (.int deep), some (.int r), none, none] H2 (RT deep) :=
      md_imp (md_tup (mda_cons hD2 md_str (fun d h => by rw [h]; rfl) (mda_cons hD2 (ro (m := 3) (by omega)) (fun d ⟨r, _, h⟩ => by rw [h]; rfl) mda_nil)) (fun ds h => by obtain ⟨_, _, rfl, _, _, _, rfl, _, rfl⟩ := h; simp)) (fun d h => by
        obtain ⟨ds, rfl, _, _, rfl, rfl, _, _, rfl, ⟨k, hk, rfl⟩, rfl⟩ := h
        exact ⟨.leaf (.sort k), td_leaf True.intro (by show k ≤ 12; omega) True.intro, rfl⟩)
    have e3 : MD T l (tTup (tCons (tC (.str "const")) (tCons (tOp rIxS (tC (.str "abc")) (tCall (spRoll T) [] E0 (tCons (tVar 0) (tCons (tC (.int (3 : Nat))) tNil)))) tNil))) [some (.ref l), some (.int deep), some (.int r), none, none] H2 (RT deep) :=
      md_imp (md_tup (mda_cons hD2 md_str (fun d h => by rw [h]; rfl) (mda_cons hD2 (md_ixS (z := "abc") (by decide) (ro (m := 3) (by omega))) (fun d ⟨c, _, h⟩ => by rw [h]; rfl) mda_nil)) (fun ds h => by obtain ⟨_, _, rfl, _, _, _, rfl, _, rfl⟩ := h; simp)) (fun d h => by
        obtain ⟨ds, rfl, _, _, rfl, rfl, _, _, rfl, ⟨c, hc, rfl⟩, rfl⟩ := h
        exact ⟨.leaf (.cst ⟨#[c]⟩), td_leaf (abc_lay c hc) True.intro (one_ne c), rfl⟩)
    have e4 : MD T l (tTup (tCons (tC (.str "rec")) (tCons (tOp rIxS (tC (.str "ab")) (tCall (spRoll T) [] E0 (tCons (tVar 0) (tCons (tC (.int (2 : Nat))) tNil)))) (tCons (tCall (spRoll T) [] E0 (tCons (tVar 0) (tCons (tC (.int (2 : Nat))) tNil))) tNil)))) [some (.ref l), some (.int deep), some (.int r), none, none] H2 (RT deep) :=
      md_imp (md_tup (mda_cons hD2 md_str (fun d h => by rw [h]; rfl) (mda_cons hD2 (md_ixS (z := "ab") (by decide) (ro (m := 2) (by omega))) (fun d ⟨c, _, h⟩ => by rw [h]; rfl) (mda_cons hD2 (ro (m := 2) (by omega)) (fun d ⟨r, _, h⟩ => by rw [h]; rfl) mda_nil))) (fun ds h => by obtain ⟨_, _, rfl, _, _, _, rfl, _, _, _, rfl, _, rfl⟩ := h; simp)) (fun d h => by
        obtain ⟨ds, rfl, _, _, rfl, rfl, _, _, rfl, ⟨c, hc, rfl⟩, _, _, rfl, ⟨k, hk, rfl⟩, rfl⟩ := h
        exact ⟨.leaf (.rcr ⟨#[c]⟩ k), td_leaf (ab_lay c hc) (by show k ≤ 12; omega) (one_ne c), rfl⟩)
    have all := mda_cons hD2 e1 (fun _ => RT.nl) (mda_cons hD2 e2 (fun _ => RT.nl) (mda_cons hD2 e3 (fun _ => RT.nl) (mda_cons hD2 e4 (fun _ => RT.nl) mda_nil)))
    have all2 := mda_imp (Rb := fun ds => ds.length = 4 ∧ ∀ d ∈ ds, RT deep d) all (fun ds h => by
      obtain ⟨d1, _, rfl, h1, d2, _, rfl, h2, d3, _, rfl, h3, d4, _, rfl, h4, rfl⟩ := h
      refine ⟨rfl, fun d hd => ?_⟩
      simp only [List.mem_cons, List.not_mem_nil, or_false] at hd
      rcases hd with rfl | rfl | rfl | rfl <;> assumption)
    exact mr_ret (md_imp (md_ixL (i := 2) (r := r) (md_lst all2 (fun ds h => by rw [h.1]; omega)) rfl (fun ds h => by rw [h.1]; exact hr4)) (fun d ⟨ds, h, hd⟩ => h.2 d (List.mem_of_getElem? hd)))
  · have hr4 : 4 ≤ r := by have := of_decide_eq_false hc; omega
    have hdeep : 0 < deep := by
      by_cases h : 0 < deep
      · exact h
      · rw [if_neg h] at hr9; omega
    obtain ⟨dp, rfl⟩ : ∃ dp, deep = dp + 1 := ⟨deep - 1, by omega⟩
    rw [if_pos hdeep] at hr9
    have hD2 := g2.mu.2.2 hD1
    have hT2 := g2.2 (m1.2.1 hT)
    refine mr_asg (R1 := fun r => ∃ ds, r = .list ds ∧ ds.length = 3 ∧ ∀ k d, ds[k]? = some d → RT dp d) (md_range (N := 3) (Pn := (· = 3)) (Res := fun _ => RT dp) (by decide) (fun n h => Nat.le_of_eq h) hD2 (fun _ _ => RT.nl) (fun H3 m3 Q3 q3 => q3 3 H3 rfl Mu.refl) (fun k H3 hk m3 => ?_)) fun v H3 d m3 ⟨ds, e, hlen, hds⟩ hv => ?_
    · intro H4 m4 Q4 q4
      refine ⟨_, rfl, _, rfl, _, _, rfl, rfl, l, dp, ?_, by omega, m4.2.2 (m3.2.2 hD2), m4.2.1 (m3.2.1 hT2), fun t v H' ht m hv => q4 v H' _ m ⟨t, ht, rfl⟩ hv⟩
      show [V.ref l, .int (((dp + 1 : Nat) : Int) - 1)] = [.ref l, .int dp]
      rw [show (((dp + 1 : Nat) : Int) - 1) = (dp : Int) by omega]
    subst e
    have hD3 := m3.2.2 hD2
    cases hv with
    | @lst a xs _ ha hxs =>
    have mem : ∀ d ∈ ds, RT dp d := fun d hd => by
      obtain ⟨j, hj⟩ := List.getElem?_of_mem hd
      exact hds j d hj
    have nds : nlA ds = true := nlA_all fun d hd => (mem d hd).nl
    have hal : a ≠ l := MDx hD3 ha hxs (fun d hd => by obtain ⟨t, _, e⟩ := mem d hd; exact ⟨t, e⟩) (fun z => by rw [z] at hlen; cases hlen)
    have at_ : ∀ c, c < 3 → ∃ t, TD dp t ∧ ds[c]? = some (enc t) := fun c hc => by
      have hj : ds[c]? = some (ds[c]'(by omega)) := List.getElem?_eq_getElem (by omega)
      obtain ⟨t, ht, e⟩ := hds c _ hj
      exact ⟨t, ht, by rw [hj, e]⟩
    obtain ⟨t0, ht0, h0⟩ := at_ 0 (by omega)
    obtain ⟨t1, ht1, h1⟩ := at_ 1 (by omega)
    obtain ⟨t2, ht2, h2⟩ := at_ 2 (by omega)
    have xl : ∀ {H4 : Hp} {c : Nat} {t : Tm}, Mu T l H3 H4 → ds[c]? = some (enc t) → MD T l (tOp (rIxL K) (tVar 3) (tC (.int (c : Nat)))) [some (.ref l), some (.int (dp + 1 : Nat)), some (.int r), some (.ref a), none] H4 (· = enc t) := fun m h => (md_xl (i := 3) hD3 rfl ha hxs nds hal h).mono m
    have nlE : ∀ {t : Tm} (d : PyData), d = enc t → nl d = true := fun d h => by rw [h]; exact nl_enc _
    refine mr_when (b := decide ((r : Int) = 4)) (et_test (ed_eqI (ed_var (i := 2) rfl (.int _)) ed_int)) (fun hc H4 g4 => ?_) (fun hc H4 g4 => ?_)
    · have hD4 := g4.mu.2.2 hD3
      have nm : MD T l (tOp rIxS (tC (.str "xy")) (tCall (spRoll T) [] E0 (tCons (tVar 0) (tCons (tC (.int (2 : Nat))) tNil)))) [some (.ref l), some (.int (dp + 1 : Nat)), some (.int r), some (.ref a), none] H4 (fun d => ∃ c ∈ ("xy" : Str).cps.toList, d = .str ⟨#[c]⟩) := md_ixS (z := "xy") (by decide) (md_roll (i := 0) (m := 2) hD4 rfl (by omega))
      refine mr_ret (md_imp (md_tup (mda_cons hD4 md_str (fun d h => by rw [h]; rfl) (mda_cons hD4 nm (fun d ⟨c, _, h⟩ => by rw [h]; rfl) (mda_cons hD4 (xl (c := 0) g4.mu h0) nlE (mda_cons hD4 (xl (c := 1) g4.mu h1) nlE (mda_cons hD4 (xl (c := 2) g4.mu h2) nlE mda_nil))))) (fun ds h => by
        obtain ⟨_, _, rfl, _, _, _, rfl, _, _, _, rfl, _, _, _, rfl, _, _, _, rfl, _, rfl⟩ := h; simp)) (fun d h => ?_))
      obtain ⟨ds, rfl, _, _, rfl, rfl, _, _, rfl, ⟨c, hc, rfl⟩, _, _, rfl, rfl, _, _, rfl, rfl, _, _, rfl, rfl, rfl⟩ := h
      exact ⟨.letE ⟨#[c]⟩ t0 t1 t2, td_let (xy_lay c hc) ht0 ht1 ht2, rfl⟩
    · have hD4 := g4.mu.2.2 hD3
      have hr5 : 5 ≤ r := by have := of_decide_eq_false hc; omega
      refine mr_ret (md_if (b := decide ((r : Int) < 7)) (et_test (ed_lt (ed_var (i := 2) rfl (.int _)) ed_int)) hD4 (fun H5 m5 => et_test (ed_lt (ed_var (i := 2) rfl (.int _)) ed_int)) (fun hc2 => ?_) (fun hc2 => ?_))
      · refine md_imp (md_tup (mda_cons hD4 md_str (fun d h => by rw [h]; rfl) (mda_cons hD4 (xl (c := 0) g4.mu h0) nlE (mda_cons hD4 (xl (c := 1) g4.mu h1) nlE mda_nil))) (fun ds h => by
          obtain ⟨_, _, rfl, _, _, _, rfl, _, _, _, rfl, _, rfl⟩ := h; simp)) (fun d h => ?_)
        obtain ⟨ds, rfl, _, _, rfl, rfl, _, _, rfl, rfl, _, _, rfl, rfl, rfl⟩ := h
        exact ⟨.app t0 t1, td_app ht0 ht1, rfl⟩
      · have hr7 : 7 ≤ r := by have := of_decide_eq_false hc2; omega
        have nm : MD T l (tOp rIxS (tC (.str "xy")) (tCall (spRoll T) [] E0 (tCons (tVar 0) (tCons (tC (.int (2 : Nat))) tNil)))) [some (.ref l), some (.int (dp + 1 : Nat)), some (.int r), some (.ref a), none] H4 (fun d => ∃ c ∈ ("xy" : Str).cps.toList, d = .str ⟨#[c]⟩) := md_ixS (z := "xy") (by decide) (md_roll (i := 0) (m := 2) hD4 rfl (by omega))
        have wdm : MD T l (tOp (rIxL K) (tLst (tCons (tC (.str "pi")) (tCons (tC (.str "lam")) tNil))) (tOp (rI0 fun i j => .int (i - j)) (tVar 2) (tC (.int 7)))) [some (.ref l), some (.int (dp + 1 : Nat)), some (.int r), some (.ref a), none] H4 (· = .str (bw (decide (r = 7)))) :=
          md_of_ed fun H5 m5 => ed_ixL (ed_lst (eda_cons ed_str (eda_cons ed_str eda_nil))) (ed_is (ed_sub (ed_var (i := 2) (d := .int r) rfl (.int _)) ed_int) (show PyData.int ((r : Int) - 7) = .int ((r - 7 : Nat) : Int) by congr 1; omega)) (by
            have h78 : r = 7 ∨ r = 8 := by omega
            rcases h78 with rfl | rfl
            · exact atI_nat (j := 0) rfl
            · exact atI_nat (j := 1) rfl)
        refine md_imp (md_tup (mda_cons hD4 wdm (fun d h => by rw [h]; rfl) (mda_cons hD4 nm (fun d ⟨c, _, h⟩ => by rw [h]; rfl) (mda_cons hD4 (xl (c := 0) g4.mu h0) nlE (mda_cons hD4 (xl (c := 1) g4.mu h1) nlE mda_nil)))) (fun ds h => by
          obtain ⟨_, _, rfl, _, _, _, rfl, _, _, _, rfl, _, _, _, rfl, _, rfl⟩ := h; simp)) (fun d h => ?_)
        obtain ⟨ds, rfl, _, _, rfl, rfl, _, _, rfl, ⟨c, hc, rfl⟩, _, _, rfl, rfl, _, _, rfl, rfl, rfl⟩ := h
        exact ⟨.bind (decide (r = 7)) ⟨#[c]⟩ t0 t1, td_bind (xy_lay c hc) ht0 ht1, rfl⟩
theorem ok_term (F : Fun K "_law_term" "_law_term" sTerm f fd) (CT : Cal K mg "_law_term" f fd ["dice", "deep"]) (GR : FnOk P w K mg base CX0 1 fr frd ["dice", "many"] (spRoll T)) (CR : Cal K mg "_law_roll" fr frd ["dice", "many"]) (mr : mg "range" = none) :
    ∀ n, FnOk P w K mg base CX0 (n + 1) f fd ["dice", "deep"] (spTerm T n)
  | 0 => ⟨fun vs H Q E ⟨_, _, _, h, _⟩ => absurd h (Nat.not_lt_zero _), fun A outer s H args us vs Q E _ _ _ _ ⟨_, _, _, h, _⟩ => absurd h (Nat.not_lt_zero _)⟩
  | n + 1 => ok_term1 F CT (ok_term F CT GR CR mr n) GR CR mr
end
end K1
namespace K1
open PySem PySem.Spec PyProof.Rows L2
open TL (numL tl_num numL_inj numL_free)
section
variable {T : Tbl} {K : PySem.W.Frag} {σ : L2.St} {H H' : Hp} {te ta tb tc : TE} {t : TT} {d e r : PyData}
theorem ed_strI {i : Int} (h : ED T te σ H (.int i)) (hi : i.natAbs.log2 < 1920) : ED T (tCB (fun xs H Q => ∃ i : Int, xs = [.int i] ∧ i.natAbs.log2 < 1920 ∧ Q (.str (toString i)) H) (tCons te tNil)) σ H (.str (toString i)) := fun H1 g Q q =>
  h H1 g _ fun v H2 g2 hv => by cases hv; exact ⟨i, rfl, hi, q _ H2 g2 (.str _)⟩
theorem ed_addS {a b : Str} (h : ED T ta σ H (.str a)) (hb : ED T tb σ H (.str b)) (hl : a.length + b.length ≤ 100000) : ED T (tOp (fun x y H Q => ∃ i j, x = .str i ∧ y = .str j ∧ i.length + j.length ≤ sizeLine ∧ Q (.str (i ++ j)) H) ta tb) σ H (.str (a ++ b)) := fun H1 g Q q =>
  h H1 g _ fun v H2 g2 hv => hb H2 (g.trans g2) _ fun w H3 g3 hw => by
    cases hv; cases hw
    exact ⟨a, b, rfl, rfl, szl hl, q _ H3 (g2.trans g3) (.str _)⟩
theorem ed_catL {a b : List PyData} (h : ED T ta σ H (.list a)) (hb : ED T tb σ H (.list b)) (hl : a.length + b.length ≤ 100000) : ED T (tOp rCat ta tb) σ H (.list (a ++ b)) := fun H1 g Q q =>
  h H1 g _ fun v H2 g2 hv => hb H2 (g.trans g2) _ fun w H3 g3 hw => by
    have hv3 := g3.dx hv
    cases hv3 with
    | @lst p xs _ hp hxs =>
    cases hw with
    | @lst p2 ys _ hp2 hys =>
    refine ⟨p, p2, xs, ys, rfl, rfl, hp, hp2, szl (by rw [hxs.length, hys.length]; exact hl), fun n hn => q _ _ ((g2.trans g3).trans (Gr.new hn)) (.lst upd_same ((Gr.new (T := T) hn).dxA (hxs.append hys)))⟩
theorem ed_catA {a b : List PyData} (h : ED T ta σ H (.tuple a)) (hb : ED T tb σ H (.tuple b)) (hl : a.length + b.length ≤ 100000) : ED T (tOp (rCatA K) ta tb) σ H (.tuple (a ++ b)) := fun H1 g Q q =>
  h H1 g _ fun v H2 g2 hv => hb H2 (g.trans g2) _ fun w H3 g3 hw => by
    have hv3 := g3.dx hv
    have hw3 := hw
    cases hv3 with
    | @tup p xs _ hp hxs =>
    cases hw3 with
    | @tup p2 ys _ hp2 hys =>
    refine ⟨p, p2, xs, ys, rfl, rfl, SqT.of hp, SqT.of hp2, szl (by rw [hxs.length, hys.length]; exact hl), fun e => ?_, fun _ e => ?_, fun _ _ n hn => q _ _ ((g2.trans g3).trans (Gr.new hn)) (.tup upd_same ((Gr.new (T := T) hn).dxA (hxs.append hys)))⟩
    · subst e
      cases hxs
      exact q _ H3 (g2.trans g3) hw
    · subst e
      cases hys
      rw [List.append_nil] at q
      exact q _ H3 (g2.trans g3) (.tup hp hxs)
theorem ed_tupL {ds : List PyData} (h : ED T te σ H (.list ds)) : ED T (tCB (fun xs H Q => ∃ p ys, xs = [.ref p] ∧ ((SqL K H p ys ∧ ∀ l, H l = none → Q (.ref l) (upd H l (.tup ys))) ∨ (SqT K H p ys ∧ Q (.ref p) H))) (tCons te tNil)) σ H (.tuple ds) := fun H1 g Q q =>
  h H1 g _ fun v H2 g2 hv => by
    cases hv with
    | @lst p xs _ hp hxs => exact ⟨p, xs, rfl, .inl ⟨SqL.of hp, fun l hl => q _ _ (g2.trans (Gr.new hl)) (.tup upd_same ((Gr.new (T := T) hl).dxA hxs))⟩⟩
theorem take_drop_dxA {H : Hp} : ∀ {xs : List V} {ds : List PyData} (i j : Nat), DxA H xs ds → DxA H ((xs.drop i).take j) ((ds.drop i).take j)
  | _, _, i, j, .nil => by rw [List.drop_nil, List.take_nil, List.drop_nil, List.take_nil]; exact .nil
  | _, _, 0, 0, .cons a b => by rw [List.take_zero, List.take_zero]; exact .nil
  | _, _, 0, j + 1, .cons a b => .cons a (by have := take_drop_dxA 0 j b; simpa using this)
  | _, _, i + 1, j, .cons a b => by simpa using take_drop_dxA i j b
/-- t[lo:hi] -/
theorem ed_slT {ds : List PyData} {lo hi : Nat} (h : ED T te σ H (.tuple ds)) (h1 : ED T ta σ H (.int lo)) (h2 : ED T tb σ H (.int hi)) (hlo : 0 < lo) (hhi : lo ≤ hi) (hh : hi ≤ ds.length) : ED T (tSl (rSlA K) te (tPart ta) (tPart tb)) σ H (.tuple ((ds.drop lo).take (hi - lo))) := fun H1 g Q q =>
  h H1 g _ fun v H2 g2 hv => h1 H2 (g.trans g2) _ fun v1 H3 g3 hv1 => by
    cases hv1
    refine ⟨lo, rfl, h2 H3 ((g.trans g2).trans g3) _ fun v2 H4 g4 hv2 => ?_⟩
    cases hv2
    refine ⟨hi, rfl, ?_⟩
    have hv4 := (g3.trans g4).dx hv
    cases hv4 with
    | @tup a xs _ ha hxs =>
    have hl := hxs.length
    have e1 : HT.sIx xs.length 0 (some (lo : Int)) = lo := by rw [HT.sIx_nat]; omega
    have e2 : HT.sIx xs.length xs.length (some (hi : Int)) = hi := by rw [HT.sIx_nat]; omega
    refine ⟨a, xs, rfl, SqT.of ha, fun hc => ?_, fun _ p hp => ?_⟩
    · exfalso
      rw [e1] at hc
      omega
    · refine q _ _ (((g2.trans g3).trans g4).trans (Gr.new hp)) (.tup (xs := cutV xs (some (lo : Int)) (some (hi : Int))) upd_same ?_)
      have e3 : cutV xs (some (lo : Int)) (some (hi : Int)) = (xs.drop lo).take (hi - lo) := by unfold cutV; rw [e1, e2]
      rw [e3]
      exact (Gr.new (T := T) hp).dxA (take_drop_dxA lo (hi - lo) hxs)
/-- l[lo:] -/
theorem ed_slL {ds : List PyData} {lo : Nat} (h : ED T te σ H (.list ds)) (h1 : ED T ta σ H (.int lo)) (hh : lo ≤ ds.length) : ED T (tSl (rSlL K) te (tPart ta) tNoPart) σ H (.list (ds.drop lo)) := fun H1 g Q q =>
  h H1 g _ fun v H2 g2 hv => h1 H2 (g.trans g2) _ fun v1 H3 g3 hv1 => by
    cases hv1
    refine ⟨lo, rfl, ?_⟩
    have hv4 := g3.dx hv
    cases hv4 with
    | @lst a xs _ ha hxs =>
    have hl := hxs.length
    have e1 : HT.sIx xs.length 0 (some (lo : Int)) = lo := by rw [HT.sIx_nat]; omega
    refine ⟨a, xs, rfl, SqL.of ha, fun p hp => ?_⟩
    refine q _ _ ((g2.trans g3).trans (Gr.new hp)) (.lst (xs := cutV xs (some (lo : Int)) none) upd_same ?_)
    have e3 : cutV xs (some (lo : Int)) none = xs.drop lo := by
      unfold cutV
      rw [e1, HT.sIx_none]
      exact List.take_of_length_le (by rw [List.length_drop]; exact Nat.le_refl _)
    rw [e3]
    have q2 := take_drop_dxA lo (ds.length - lo) hxs
    rw [List.take_of_length_le (by rw [List.length_drop]; omega), List.take_of_length_le (by rw [List.length_drop]; omega)] at q2
    exact (Gr.new (T := T) hp).dxA q2
end
theorem num_length {n : Nat} (h : n < 1000000) : (num n).length ≤ 6 := by
  have e := num_cps n
  show (num n).cps.size ≤ 6
  rw [← Array.length_toList, e]
  exact TL.numL_len (by decide) (by omega)
theorem log2_small {n : Nat} (h : n < 1000000) : ((n : Int)).natAbs.log2 < 1920 := by
  rw [Int.natAbs_natCast]
  by_cases h0 : n = 0
  · subst h0; decide
  · exact (Nat.log2_lt h0).mpr (Nat.lt_of_lt_of_le h (by decide))
end K1
namespace K1
open PySem PySem.Spec PyProof.Rows L2
/-! ### named -/
theorem nl_encN : ∀ m : Nm, nl (encN m) = true
  | .fre s => rfl
  | .leaf l => nl_encL l
  | .app f a => by show (true && (nl (encN f) && (nl (encN a) && true))) = true; rw [nl_encN f, nl_encN a]; rfl
  | .bind p k m b => by show (true && (nl (encN k) && (true && (nl (encN b) && true)))) = true; rw [nl_encN k, nl_encN b]; rfl
  | .letE k v m b => by show (true && (nl (encN k) && (nl (encN v) && (true && (nl (encN b) && true))))) = true; rw [nl_encN k, nl_encN v, nl_encN b]; rfl
theorem bnd_down {B : Nat} (t : Tm) : ∀ j, bnd B t (j + 1) → bnd (B + 1) t j := by
  induction t with
  | var n => intro j h; have h : n < B + (j + 1) := h; show n < B + 1 + j; omega
  | leaf l => intro j h; trivial
  | bind p x k b i1 i2 => intro j h; exact ⟨i1 j h.1, i2 (j + 1) h.2⟩
  | app f a i1 i2 => intro j h; exact ⟨i1 j h.1, i2 j h.2⟩
  | letE x k v b i1 i2 i3 => intro j h; exact ⟨i1 j h.1, i2 j h.2.1, i3 (j + 1) h.2.2⟩
abbrev sNamed : Stmt := topS 38
theorem scNamed : FnScope ["term", "names", "fresh", "word", "mine", "kinds", "part"] ["term", "names", "fresh"] (defScope sNamed) := ⟨rfl, rfl, rfl, by decide +kernel, rfl, by decide +kernel, by decide +kernel⟩
def rNamed (n : Nat) : List PyData → PyData → Prop := fun ds r => ∃ (t : Tm) (ns : List Str) (fr : Str), ds = [enc t, .list (ns.map .str), .str fr] ∧ dep t < n ∧ bnd ns.length t 0 ∧ ns.length + dep t ≤ 1000 ∧ fr.length ≤ 100 ∧ r = encN (nam t ns fr)
abbrev lws : List Str := ["sort", "const", "rec"]
theorem nin_var : ("var" : Str) ∉ lws := by decide
theorem nin_app : ("app" : Str) ∉ lws := by decide
theorem nin_let : ("let" : Str) ∉ lws := by decide
theorem nin_bw (p : Bool) : bw p ∉ lws := by cases p <;> decide
theorem in_leaf (l : Lf) : wd (.leaf l) ∈ lws := by cases l <;> simp [lws, wd]
theorem app_leaf (l : Lf) : wd (.leaf l) ≠ "app" := by
  cases l with
  | sort l => exact (show ("sort" : Str) ≠ "app" by decide)
  | cst l => exact (show ("const" : Str) ≠ "app" by decide)
  | rcr c l => exact (show ("rec" : Str) ≠ "app" by decide)
theorem app_var : ("var" : Str) ≠ "app" := by decide
theorem app_let : ("let" : Str) ≠ "app" := by decide
theorem app_bw (p : Bool) : bw p ≠ "app" := by cases p <;> decide
theorem one_two {α : Type} (a b : α) : 1 ≤ [a].length ∧ [a].length ≤ 2 ∧ 1 ≤ [a, b].length ∧ [a, b].length ≤ 2 := by simp
/-- a binder's parts: those outside of it, the one within -/
structure Bindish (n : Nat) (t : Tm) (ns : List Str) (fr : Str) (w x : Str) (ks : List Tm) (b : Tm) : Prop where
  e : enc t = .tuple (.str w :: .str x :: (ks.map enc ++ [enc b]))
  one : 1 ≤ ks.length
  two : ks.length ≤ 2
  hk : ∀ u ∈ ks, dep u < n ∧ bnd ns.length u 0 ∧ ns.length + dep u ≤ 1000
  hb : dep b < n ∧ bnd (ns.length + 1) b 0 ∧ ns.length + 1 + dep b ≤ 1000
  r : encN (nam t ns fr) = .tuple (.str w :: (ks.map (fun u => encN (nam u ns fr)) ++ [.str (bn ns.length fr), encN (nam b (bn ns.length fr :: ns) fr)]))
  w1 : w ≠ "var"
  w2 : w ∉ (["sort", "const", "rec"] : List Str)
  w3 : w ≠ "app"
section
variable {P : Program} {w : World} {K : PySem.W.Frag} {mg : Str → Option Value} {base : Heap} {T : Tbl} {f : Addr} {fd : FuncData}
theorem ok_named1 {n : Nat} (F : Fun K "_law_named" "_law_named" sNamed f fd) (CN : Cal K mg "_law_named" f fd ["term", "names", "fresh"]) (G : FnOk P w K mg base CX0 (n + 1) f fd ["term", "names", "fresh"] (spF T (rNamed n))) (ml : mg "len" = none) (ms : mg "str" = none) (mt : mg "tuple" = none) :
    FnOk P w K mg base CX0 (n + 2) f fd ["term", "names", "fresh"] (spF T (rNamed (n + 1))) := by
  refine mkF F scNamed (fun ds r ⟨d, _, _, e, _⟩ => by rw [e]; rfl) (fun cdv A outer s H vs E ds r hr hR hd hT => ?_)
  obtain ⟨t, ns, fr, rfl, hdep, hb, hn, hfr, rfl⟩ := hR
  obtain ⟨v0, v1, v2, rfl, hv0, hv1, hv2⟩ := dxA3 hd
  cases hv2
  refine ⟨_, pss_cons (ps_set (i := 3) scNamed.nd rfl (.inl rfl) (pxt 0))
    (pss_cons (ps_if (pt_cmpR op_eq (pv 3) pe_str (nomark _)) (pss_one (ps_ret (pe_ifExp (pt_cmpR op_lt (pxt 0) (pe_callB call_len_seq rfl ml boot_len (pa_cons (pv 1) pa_nil)) (nomark _)) (pe_ix ix_list (pv 1) (pxt 0) (fun _ _ => rfl))
        (pe_op op_add_str pe_str (pe_callTy call_str_int rfl ms PyProof.Rows.boot_str (pa_cons (pe_op op_sub (pxt 0) (pe_callB call_len_seq rfl ml boot_len (pa_cons (pv 1) pa_nil))) pa_nil)))))) pss_nil)
    (pss_cons (ps_if (pt_cmpR op_in_seq (pv 3) (pe_lst (pa_cons pe_str (pa_cons pe_str (pa_cons pe_str pa_nil)))) (by rfl)) (pss_one (ps_ret (pv 0))) pss_nil)
    (pss_cons (ps_if (pt_cmpR op_eq (pv 3) pe_str (nomark _)) (pss_one (ps_ret (pe_tup (pa_cons (pv 3) (pa_cons (pe_call G hr rfl CN.m CN.kp CN.b .nil pass0 (pa_cons (pxt 0) (pa_cons (pv 1) (pa_cons (pv 2) pa_nil))))
        (pa_cons (pe_call G hr rfl CN.m CN.kp CN.b .nil pass0 (pa_cons (pxt 0) (pa_cons (pv 1) (pa_cons (pv 2) pa_nil)))) pa_nil)))))) pss_nil)
    (pss_cons (ps_set (i := 4) scNamed.nd rfl (.inl rfl) (pe_op op_add_str (pe_op op_add_str pe_str (pe_callTy call_str_int rfl ms PyProof.Rows.boot_str (pa_cons (pe_callB call_len_seq rfl ml boot_len (pa_cons (pv 1) pa_nil)) pa_nil))) (pv 2)))
    (pss_cons (ps_set (i := 5) scNamed.nd rfl (.inl rfl) (pe_callTy call_tuple_of rfl mt PyProof.Rows.boot_tuple (pa_cons (pe_lc (own := [("part", 6)]) (g := gName 6) (tt := tYes) rfl scNamed.nd
        (pi_tup (pe_slice sl_tupA (pv 0) (po_some pe_int) (po_some (pe_op op_sub (pe_callB call_len_seq rfl ml boot_len (pa_cons (pv 0) pa_nil)) pe_int)))) (blkOk_by (N := ["term", "names", "fresh", "word", "mine", "kinds", "part"]) (sc := defScope sNamed) (by decide +kernel)) (fun _ _ _ _ _ => pg_name (i := 6) scNamed.nd rfl (Or.inl rfl)) (fun _ _ _ _ _ => pts_nil)
        (fun _ _ _ _ _ => pe_call G hr rfl CN.m CN.kp CN.b .nil pass0 (pa_cons (pv 6) (pa_cons (pv 1) (pa_cons (pv 2) pa_nil))))) pa_nil)))
    (pss_one (ps_ret (pe_op op_catA (pe_op op_catA (pe_tup (pa_cons (pv 3) pa_nil)) (pv 5)) (pe_tup (pa_cons (pv 4) (pa_cons (pe_call G hr rfl CN.m CN.kp CN.b .nil pass0 (pa_cons (pe_ix ix_tup (pv 0) (pe_op op_sub (pe_callB call_len_seq rfl ml boot_len (pa_cons (pv 0) pa_nil)) pe_int) (fun _ _ => rfl))
        (pa_cons (pe_op op_cat (pe_lst (pa_cons (pv 4) pa_nil)) (pv 1)) (pa_cons (pv 2) pa_nil)))) pa_nil))))))))))), ?_⟩
  obtain ⟨rest, hrest⟩ := enc_hd t
  have hv0' := hv0
  rw [hrest] at hv0'
  refine rd_asg (ed_x rfl hv0' (atI_nat (j := 0) rfl)) fun v3 H1 g1 hw => ?_
  refine rd_when (b := decide (wd t = "var")) (et_test (ed_eqS (ed_var rfl hw) ed_str)) (fun hc H2 g2 => ?_) (fun hc H2 g2 => ?_)
  · obtain ⟨m, rfl⟩ := wd_var (of_decide_eq_true hc)
    have hm : m < ns.length + 0 := hb
    have g12 := g1.trans g2
    refine rd_ret (ed_if (b := decide ((m : Int) < ((ns.map PyData.str).length : Nat))) (et_test (ed_lt (ed_x rfl (g12.dx hv0) rfl) (ed_lenL (ed_var rfl (g12.dx hv1))))) (fun _ => ed_ixL (i := (m : Int)) (ed_var rfl (g12.dx hv1)) (ed_x (ds := [.str "var", .int m]) rfl (g12.dx hv0) rfl) (atI_nat ?_)) (fun h => ?_))
    · show (ns.map PyData.str)[m]? = some (encN (.fre (nmv m ns)))
      have e : ns[m]? = some (ns[m]'(by omega)) := List.getElem?_eq_getElem (by omega)
      rw [List.getElem?_map, show nmv m ns = ns[m]'(by omega) from by unfold nmv; rw [e], e]
      rfl
    · exfalso
      have := of_decide_eq_false h
      rw [List.length_map] at this
      omega
  refine rd_when (b := decide (wd t ∈ (["sort", "const", "rec"] : List Str))) (et_test (ed_inL ["sort", "const", "rec"] (ed_var rfl (g2.dx hw)) (ed_lst (eda_cons ed_str (eda_cons ed_str (eda_cons ed_str eda_nil)))))) (fun hc3 H3 g3 => ?_) (fun hc3 H3 g3 => ?_)
  · have hleaf : ∃ l, t = .leaf l := by
      have := of_decide_eq_true hc3
      cases t with
      | leaf l => exact ⟨l, rfl⟩
      | var n => exact absurd this nin_var
      | bind p x k b => exact absurd this (nin_bw p)
      | app f a => exact absurd this nin_app
      | letE x k v b => exact absurd this nin_let
    obtain ⟨l, rfl⟩ := hleaf
    exact rd_ret (ed_var rfl (((g1.trans g2).trans g3).dx hv0))
  refine rd_when (b := decide (wd t = "app")) (et_test (ed_eqS (ed_var rfl ((g2.trans g3).dx hw)) ed_str)) (fun hc4 H4 g4 => ?_) (fun hc4 H4 g4 => ?_)
  · have happ : ∃ a b, t = .app a b := by
      have := of_decide_eq_true hc4
      cases t with
      | leaf l => exact absurd this (app_leaf l)
      | var n => exact absurd this app_var
      | bind p x k b => exact absurd this (app_bw p)
      | app f a => exact ⟨f, a, rfl⟩
      | letE x k v b => exact absurd this app_let
    obtain ⟨a, b, rfl⟩ := happ
    have g14 := ((g1.trans g2).trans g3).trans g4
    have h0 := g14.dx hv0
    have h1 := g14.dx hv1
    simp only [dep] at hdep hn
    have ca : ∀ {c : Int} {u : Tm}, atI [PyData.str "app", enc a, enc b] c = some (enc u) → dep u < n → bnd ns.length u 0 → ns.length + dep u ≤ 1000 → ED T (tCall (spF T (rNamed n)) [] E0 (tCons (tOp (rIxT K) (tVar 0) (tC (.int c))) (tCons (tVar 1) (tCons (tVar 2) tNil)))) [some v0, some v1, some (.str fr), some v3, none, none, none] H4 (encN (nam u ns fr)) := fun h1' h2 h3 h4 =>
      ed_call (dd := []) (g14.2 hT) (eda_cons (ed_x (i := 0) rfl h0 h1') (eda_cons (ed_var (i := 1) rfl h1) (eda_cons (ed_var (i := 2) rfl (.str _)) eda_nil))) (fun _ => .nil) ⟨_, ns, fr, rfl, h2, h3, h4, hfr, rfl⟩
    refine rd_ret (ed_is (ed_tup (eda_cons (ed_var (i := 3) rfl (((g2.trans g3).trans g4).dx hw)) (eda_cons (ca (u := a) rfl (by omega) hb.1 (by omega)) (eda_cons (ca (u := b) rfl (by omega) hb.2 (by omega)) eda_nil)))) rfl)
  -- binders
  have hB : ∃ x ks b, Bindish n t ns fr (wd t) x ks b := by
    have h1 := of_decide_eq_false hc
    have h2 := of_decide_eq_false hc3
    have h3 := of_decide_eq_false hc4
    cases t with
    | leaf l => exact absurd (in_leaf l) h2
    | var n => exact absurd rfl h1
    | app f a => exact absurd rfl h3
    | bind p x k b =>
      simp only [dep] at hdep hn
      exact ⟨x, [k], b, ⟨rfl, (one_two k k).1, (one_two k k).2.1, fun u hu => by rw [List.mem_singleton.mp hu]; exact ⟨by omega, hb.1, by omega⟩, ⟨by omega, bnd_down b 0 hb.2, by omega⟩, rfl, h1, h2, h3⟩⟩
    | letE x k v b =>
      simp only [dep] at hdep hn
      refine ⟨x, [k, v], b, ⟨rfl, (one_two k v).2.2.1, (one_two k v).2.2.2, fun u hu => ?_, ⟨by omega, bnd_down b 0 hb.2.2, by omega⟩, rfl, h1, h2, h3⟩⟩
      simp at hu
      rcases hu with rfl | rfl
      · exact ⟨by omega, hb.1, by omega⟩
      · exact ⟨by omega, hb.2.1, by omega⟩
  obtain ⟨x, ks, b, Z⟩ := hB
  have g14 := ((g1.trans g2).trans g3).trans g4
  have hw4 := ((g2.trans g3).trans g4).dx hw
  have h0 := g14.dx hv0
  have h1 := g14.dx hv1
  have hT4 := g14.2 hT
  rw [Z.e] at h0
  rw [Z.r]
  have hns : ns.length < 1000000 := by omega
  have hlm : (ns.map PyData.str).length = ns.length := List.length_map _
  have hmine : ED T _ [some v0, some v1, some (.str fr), some v3, none, none, none] H4 (.str (bn ns.length fr)) := ed_addS (T := T) (a := ("b" : Str) ++ num ns.length) (b := fr)
    (ed_addS (a := "b") (b := num ns.length) ed_str (ed_strI (i := (ns.length : Int)) (ed_is (ed_lenL (K := K) (ed_var (i := 1) rfl h1)) (by rw [hlm])) (log2_small hns)) (by have := num_length hns; show 1 + _ ≤ _; omega)) (ed_var (i := 2) (d := .str fr) rfl (.str _)) (by
      have := num_length hns
      have e : (("b" : Str) ++ num ns.length).length = 1 + (num ns.length).length := by
        show (("b" : Str).cps ++ (num ns.length).cps).size = _
        rw [Array.size_append]
        rfl
      rw [e]
      omega)
  refine rd_asg hmine fun v4 H5 g5 hv4 => ?_
  cases hv4
  have h05 := g5.dx h0
  have h15 := g5.dx h1
  have hT5 := g5.2 hT4
  have hlen : (PyData.str (wd t) :: .str x :: (ks.map enc ++ [enc b])).length = ks.length + 3 := by simp
  have hkinds : ED T _ [some v0, some v1, some (.str fr), some v3, some (.str (bn ns.length fr)), none, none] H5 (.tuple (ks.map fun u => encN (nam u ns fr))) := ed_tupL (T := T) (K := K) (ed_lcA (α := Tm) (L := ks) (f1 := enc) (f2 := fun u => encN (nam u ns fr)) (g := gName 6) (vs := [6]) (te := tCall (spF T (rNamed n)) [] E0 (tCons (tVar 6) (tCons (tVar 1) (tCons (tVar 2) tNil))))
    (wi := iTup K (tSl (rSlA K) (tVar 0) (tPart (tC (.int 2))) (tPart (tOp (rI0 fun i j => .int (i - j)) (tCB (fun xs H Q => ∃ p ys, xs = [.ref p] ∧ (SqL K H p ys ∨ SqT K H p ys) ∧ Q (.int ys.length) H) (tCons (tVar 0) tNil)) (tC (.int 1))))))
    (ei_tup (ed_is (ed_slT (lo := 2) (hi := ks.length + 2) (ed_var (i := 0) rfl h05) ed_int (ed_is (ed_sub (ed_lenT (ed_var (i := 0) rfl h05)) ed_int) (by rw [hlen]; congr 1; omega)) (by decide) (by omega) (by rw [hlen]; omega)) (by
      congr 1
      show List.take (ks.length + 2 - 2) (ks.map enc ++ [enc b]) = _
      rw [Nat.add_sub_cancel, List.take_append_of_le_length (by rw [List.length_map]; exact Nat.le_refl _)]
      exact List.take_of_length_le (by rw [List.length_map]; exact Nat.le_refl _))))
    (by have := Z.two; omega) (fun u _ => nl_encN _) (fun u hu x H6 g6 hx => ⟨_, fun Q h => h, wipe_set1, ed_call (dd := []) (g6.2 hT5) (eda_cons (ed_var (i := 6) rfl hx) (eda_cons (ed_var (i := 1) rfl (g6.dx h15)) (eda_cons (ed_var (i := 2) rfl (.str _)) eda_nil))) (fun _ => .nil) ⟨u, ns, fr, rfl, (Z.hk u hu).1, (Z.hk u hu).2.1, (Z.hk u hu).2.2, hfr, rfl⟩⟩))
  refine rd_asg hkinds fun v5 H6 g6 hv5 => ?_
  have h06 := g6.dx h05
  have h16 := g6.dx h15
  have hT6 := g6.2 hT5
  have hl5 : (ks.map fun u => encN (nam u ns fr)).length ≤ 2 := by rw [List.length_map]; exact Z.two
  refine rd_ret (ed_is (ed_catA (ed_catA (a := [.str (wd t)]) (ed_tup (eda_cons (ed_var (i := 3) rfl ((g5.trans g6).dx hw4)) eda_nil)) (ed_var (i := 5) rfl hv5) (by simp; have := Z.two; omega)) (ed_tup (eda_cons (ed_var (i := 4) (d := .str (bn ns.length fr)) rfl (.str _)) (eda_cons (ed_call (R := rNamed n) (r := encN (nam b (bn ns.length fr :: ns) fr)) (dd := []) (ds := [enc b, .list ((bn ns.length fr :: ns).map .str), .str fr]) hT6
    (eda_cons (ed_ixT (ed_var (i := 0) rfl h06) (ed_sub (ed_lenT (ed_var (i := 0) rfl h06)) ed_int) ?_) (eda_cons (ed_catL (a := [.str (bn ns.length fr)]) (b := ns.map .str) (ed_lst (eda_cons (ed_var (i := 4) (d := .str (bn ns.length fr)) rfl (.str _)) eda_nil)) (ed_var (i := 1) rfl h16) (by rw [hlm]; simp; omega)) (eda_cons (ed_var (i := 2) rfl (.str _)) eda_nil))) (fun _ => .nil) ⟨b, bn ns.length fr :: ns, fr, rfl, Z.hb.1, by rw [List.length_cons]; exact Z.hb.2.1, by rw [List.length_cons]; exact Z.hb.2.2, hfr, rfl⟩) eda_nil))) (by simp; have := Z.two; omega)) ?_)
  · rw [hlen, show ((ks.length + 3 : Nat) : Int) - 1 = ((ks.length + 2 : Nat) : Int) by omega]
    refine atI_nat ?_
    show (ks.map enc ++ [enc b])[ks.length]? = some (enc b)
    rw [List.getElem?_append_right (by rw [List.length_map]; exact Nat.le_refl _), List.length_map, Nat.sub_self]
    rfl
  · simp
theorem ok_named (F : Fun K "_law_named" "_law_named" sNamed f fd) (CN : Cal K mg "_law_named" f fd ["term", "names", "fresh"]) (ml : mg "len" = none) (ms : mg "str" = none) (mt : mg "tuple" = none) :
    ∀ n, FnOk P w K mg base CX0 (n + 1) f fd ["term", "names", "fresh"] (spF T (rNamed n))
  | 0 => ⟨fun vs H Q E ⟨_, _, _, _, ⟨_, _, _, _, h, _⟩, _⟩ => absurd h (Nat.not_lt_zero _), fun A outer s H args us vs Q E _ _ _ _ ⟨_, _, _, _, ⟨_, _, _, _, h, _⟩, _⟩ => absurd h (Nat.not_lt_zero _)⟩
  | n + 1 => ok_named1 F CN (ok_named F CN ml ms mt n) ml ms mt
end
end K1
namespace K1
open PySem PySem.Spec PyProof.Rows L2
/-! ### enumerate over a tuple -/
theorem meets_enumT {v : Value} {o : Obj} {H : Heap → Prop} (B : Begins v o H) :
    Meets (Builtin.«enumerate.__new__» ⟨[.type "enumerate", v], []⟩) (fun _ R s => H s.heap ∧
      R (.ok (.ret (.ref (s.heap.push o).objs.size))) { s with heap := (s.heap.push o).push { cls := .type "enumerate", data := .fields #[.none, .bool false, .ref s.heap.objs.size, rawInt 0, .none, .none] } }) :=
  .of_wp fun prog w A R s h => by
    obtain ⟨hp, g, d, tk, os⟩ := s; obtain ⟨h1, h⟩ := h
    have hsub := sub_enumerate
    have q1 : ∀ {A' : Around} {E : Value → Shared → Prop} {Q : Value → Shared → Prop}, Q (.ref hp.objs.size) ⟨hp.push o, g, d, tk, os⟩ → wpAny (model prog w) A' (pyIter v) Q E ⟨hp, g, d, tk, os⟩ :=
      fun q => B.iter prog w _ _ ⟨hp, g, d, tk, os⟩ _ h1 q
    wp_walk using q1
    refine wpAny_stack_any fun st => wpAny_pure ?_
    split
    · rename_i c _ _ _ _ _
      cases (c == Value.type "enumerate")
      · wp_walk using q1
        exact ⟨_, rfl, h⟩
      · wp_walk using q1
        exact ⟨_, rfl, h⟩
    · wp_walk using q1
      exact ⟨_, rfl, h⟩
section
variable {prog : Program} {w : World} {A : Around} {E : Value → Shared → Prop} {s : Shared}
theorem call_enumT {l : Addr} {items : Array Value} {Q : Value → Shared → Prop} (hL : s.heap.IsTuple l items)
    (h : ∀ h', IsEnum h' (s.heap.objs.size + 1) s.heap.objs.size 0 .none → h'.IsTupleIter s.heap.objs.size l 0 → h'.objs.size = s.heap.objs.size + 2 →
      (∀ b o, s.heap.get? b = some o → h'.get? b = some o) → Q (.ref (s.heap.objs.size + 1)) { s with heap := h' }) :
    wpAny (model prog w) A (call (.type "enumerate") [.ref l]) Q E s := by
  refine callType_new F.called_enumerate (by decide) (F.typeCall_enumerate_1 _) (F.newCall_enumerate_1 _) (fun obj => F.args_object_init_2 obj _) F.entry_enumerate_new
    (meets_enumT (begins_tuple l items)) ⟨hL, ?_⟩
  have hz : (s.heap.push { cls := .type "tuple_iterator", data := .fields #[.ref l, .int 0 0] }).objs.size = s.heap.objs.size + 1 := Heap.size_push ..
  show _ ∧ _
  rw [hz]
  have he : IsEnum ((s.heap.push { cls := .type "tuple_iterator", data := .fields #[.ref l, .int 0 0] }).push
      { cls := .type "enumerate", data := .fields #[.none, .bool false, .ref s.heap.objs.size, rawInt 0, .none, .none] }) (s.heap.objs.size + 1) s.heap.objs.size 0 .none := by
    have := Heap.get?_push_size (s.heap.push { cls := .type "tuple_iterator", data := .fields #[.ref l, .int 0 0] })
      (o := { cls := .type "enumerate", data := .fields #[.none, .bool false, .ref s.heap.objs.size, rawInt 0, .none, .none] }) rfl
    rw [hz] at this; exact this
  refine ⟨⟨_, he, rfl⟩, h _ he ⟨_, Heap.get?_push_of_some _ (Heap.get?_push_size _ rfl), rfl, rfl⟩ (by rw [Heap.size_push, hz]) fun b o x => Heap.get?_push_of_some _ (Heap.get?_push_of_some _ x)⟩
end
def IteT (K : PySem.W.Frag) (a : Addr) : It :=
  ⟨fun i H => ∃ (xs : List V) (x : V), SqT K H a xs ∧ xs[i]? = some x, fun i H v H' => ∃ T x, v = .ref T ∧ H T = none ∧ H' = upd H T (.tup [.int (i : Nat), x]) ∧ ∀ xs, SqT K H a xs → xs[i]? = some x, fun i H => ∃ xs : List V, SqT K H a xs ∧ xs.length = i⟩
theorem turn_enumT {P : Program} {w : World} {K : PySem.W.Frag} {elts : List Expr} {kk : Nat} {tpos : Pos} (a e it : Addr) :
    Turn P w K (.Tuple elts kk tpos) (IteT K a) [e, it] e (fun i h => (∃ old, IsEnum h e it ((i : Nat) : Int) old) ∧ h.IsTupleIter it a i ∧ e ≠ it ∧ a ≠ it ∧ a ≠ e) where
  mem := by simp
  obj := fun i h st b hb => by
    obtain ⟨⟨old, he⟩, ⟨o, ho, hc, hd⟩, _⟩ := st
    have e' : b = e ∨ b = it := by simpa using hb
    rcases e' with z | z
    · rw [z]; exact ⟨_, he, fun v q => nomatch q⟩
    · rw [z]; exact ⟨o, ho, fun v q => by rw [hd] at q; cases q⟩
  keep := fun i h h' st k => let ⟨⟨old, he⟩, hi, hne⟩ := st; ⟨⟨old, k e (by simp) _ he⟩, hi.at fun o q => k it (by simp) o q, hne⟩
  item := by
    intro X hP hw hK hc i pins s σ H E I hf st hg
    subst hP hw hK
    obtain ⟨⟨old, he⟩, hit, hne, hai, hae⟩ := st
    obtain ⟨xs, x, hq, hx⟩ := hg
    obtain ⟨its, rv, p, hz⟩ := I.tuple hq
    obtain ⟨u, hu, ru⟩ := rv.get hx
    have hel : e < s.heap.objs.size := Heap.lt_size he
    have hil : it < s.heap.objs.size := by obtain ⟨_, q, _⟩ := hit; exact Heap.lt_size q
    have hlt : i < its.toArray.size := by
      have := (List.getElem?_eq_some_iff.mp hu).1
      simpa using this
    refine wpAny_pyNext_enum_itemD (Draws.tuple (A := X.A.in1) (I.ok.hd hc) it a hai its.toArray) he ⟨hit, p⟩ hlt hne (nin2 hne (Ne.symm hae)) fun x' h' tk hP' ho hst' hT hsz hk => ?_
    have ex : x' = u := by
      rw [List.getElem?_toArray, hu] at hP'
      exact (Option.some.inj hP').symm
    subst ex
    obtain ⟨hit', _⟩ := hst'
    refine ⟨_, rfl, wpAny_letOwnedTupleGo_enum (s := { s with heap := h', toks := tk + 1 }) ho fun h'' he' sb => ?_⟩
    have hT2 : h''.get? s.heap.objs.size = some { cls := .type "tuple", data := .seq #[.int i tk, x'] } := (sb.2 _ (Nat.ne_of_gt hel)).trans hT
    have new : ObjOk X.prog X.w (upd H s.heap.objs.size (.tup [.int (i : Nat), x])) h'' s.heap.objs.size (.tup [.int (i : Nat), x]) :=
      ⟨by show 2 ≤ sizeLine; decide, [.int i tk, x'], .cons ⟨_, rfl⟩ (.cons ru .nil), ⟨_, hT2, rfl, _, rfl⟩⟩
    have I1 : Inv X pins σ (upd H s.heap.objs.size (.tup [.int (i : Nat), x])) { s with heap := h'', toks := tk + 1 } :=
      I.turnedNew (ch := [e, it]) (fun b ob hb q => (sb.2 b (fun z => hb (by simp [z]))).trans (hk b ob (fun z => hb (by simp [z])) (fun z => hb (by simp [z])) q)) hf (Nat.le_refl _) new
    refine ⟨.ref s.heap.objs.size, _, I1, rfl, ⟨_, x, rfl, I.hok.fresh (Nat.le_refl _), rfl, fun ys hy => by rw [I.tuple_inj hy hq]; exact hx⟩, ⟨⟨x', ?_⟩, hit'.at fun o q => (sb.2 it (Ne.symm hne)).trans q, hne, hai, hae⟩, fun b hb => ?_⟩
    · have e1 : ((i + 1 : Nat) : Int) = (i : Int) + 1 := by omega
      rw [e1]; exact he'
    · have hb' : b < s.heap.objs.size := by
        have e' : b = e ∨ b = it := by simpa using hb
        rcases e' with z | z
        · rw [z]; exact hel
        · rw [z]; exact hil
      rw [upd_ne (Nat.ne_of_lt hb')]
      exact (hf b hb).1
  done := by
    intro X hP hw hK hc i pins s σ H E I hf st hg
    subst hP hw hK
    obtain ⟨⟨old, he⟩, hit, hne, hai, hae⟩ := st
    obtain ⟨xs, hq, hx⟩ := hg
    obtain ⟨its, rv, p, hz⟩ := I.tuple hq
    obtain ⟨f0, f1, f2, f3, f4, f5⟩ := hf it (by simp)
    have hl := rv.length
    have hi : i = its.toArray.size := by simp; omega
    refine wpAny_pyNext_enum_endD (Draws.tuple (A := X.A.in1) (I.ok.hd hc) it a hai its.toArray) he ⟨hi ▸ hit, p⟩ fun h' eb => ⟨rfl, I.turned (t' := s.toks) (fun b o hb q => eb b o hb q) f0 f1 f3 f4 f5⟩
  self := fun A i s Q E st h => let ⟨⟨_, he⟩, _⟩ := st; wpAny_pyIter_enum he h
def iEnumT (K : PySem.W.Frag) (ta : TA) : TI := fun σ H R => ta σ H fun vs H1 => ∃ a xs, vs = [.ref a] ∧ SqT K H1 a xs ∧ R (IteT K a) H1
theorem pi_enumT {X : Cx} {e : Expr} {ta : TA} {p pos tpos : Pos} {elts : List Expr} {kk : Nat} (hg : Gl X "enumerate") (hm : X.mg "enumerate" = none) (ha : PA X [e] ta) (hs : starEach [e] X.env = [(false, eval e X.env)] := by rfl) :
    PI X (.Tuple elts kk tpos) (.Call (.Name "enumerate" p) [e] [] pos) (iEnumT X.K ta) := by
  refine ⟨fun pins s σ H R I h => ?_⟩
  refine Call_ (ld_blt I hg hm boot_enumerate (PyProof.Rows.callWith_type1 (thn (ha.run pos pins s σ H _ I h) fun us s1 ⟨vs, H1, I1, r1, q1⟩ => ?_) hs rfl))
  obtain ⟨a, xs, ex, hq, q⟩ := q1
  subst ex
  cases r1 with
  | cons r rr =>
    cases rr
    cases r
    obtain ⟨its, rv, p', hz⟩ := I1.tuple hq
    have alt : a < s1.heap.objs.size := by obtain ⟨o, ho, _⟩ := id p'; exact Heap.lt_size ho
    refine call_enumT (show s1.heap.IsTuple a its.toArray from p') fun h' he hit hsz hk => wpAny_pyIter_enum he ?_
    have I2 : Inv X pins σ H1 { s1 with heap := h' } := I1.kept (t' := s1.toks) hk
    refine ⟨s1.heap.objs.size + 1, [s1.heap.objs.size + 1, s1.heap.objs.size], _, _, H1, rfl, I2, turn_enumT a (s1.heap.objs.size + 1) s1.heap.objs.size, ⟨⟨.none, he⟩, hit, Nat.succ_ne_self _, Nat.ne_of_lt alt, fun z => an 1 alt z.symm⟩, fun b hb => ?_, q⟩
    have e' : b = s1.heap.objs.size + 1 ∨ b = s1.heap.objs.size := by simpa using hb
    have hle : s1.heap.objs.size ≤ b := by
      rcases e' with z | z
      · rw [z]; exact Nat.le_add_right _ _
      · rw [z]; exact Nat.le_refl _
    exact I1.fpOk hle (I1.hok.fresh hle)
theorem walk_enumT {K : PySem.W.Frag} {a : Addr} {xs : List V} : Walk (IteT K a) xs.length (fun H => SqT K H a xs) (YPair (fun i => some (.int (i : Nat))) (fun i => xs[i]?)) := by
  refine ⟨fun i _ hi q => ⟨xs, xs[i], q, by simp [hi]⟩, fun _ q => ⟨xs, q, rfl⟩, fun i H v H' _ q y => ?_⟩
  obtain ⟨T, x, h1, h2, h3, h4⟩ := y
  exact ⟨T, .int (i : Nat), x, h1, h2, h3, rfl, h4 xs q⟩
end K1
namespace K1
open PySem PySem.Spec PyProof.Rows L2
/-! ### a term's fields -/
inductive Fd where
  | at (d : PyData) | sub (u : Tm) (un : Bool)
def Fd.d : Fd → PyData
  | .at d => d
  | .sub u _ => enc u
def fds : Tm → List Fd
  | .var n => [.at (.str "var"), .at (.int n)]
  | .leaf (.sort l) => [.at (.str "sort"), .at (.int l)]
  | .leaf (.cst c) => [.at (.str "const"), .at (.str c)]
  | .leaf (.rcr c l) => [.at (.str "rec"), .at (.str c), .at (.int l)]
  | .bind p x k b => [.at (.str (bw p)), .at (.str x), .sub k false, .sub b true]
  | .app f a => [.at (.str "app"), .sub f false, .sub a false]
  | .letE x k v b => [.at (.str "let"), .at (.str x), .sub k false, .sub v false, .sub b true]
theorem enc_fds (t : Tm) : enc t = .tuple ((fds t).map Fd.d) := by
  cases t with
  | leaf l => cases l <;> rfl
  | _ => rfl
theorem fds_at (t : Tm) : ∀ x ∈ fds t, ∀ d, x = .at d → isTupD d = false := by
  intro x hx d e
  subst e
  cases t with
  | leaf l => cases l <;> (simp [fds] at hx; rcases hx with rfl | hx <;> first | rfl | (subst hx; rfl) | (rcases hx with rfl | rfl <;> rfl))
  | _ => simp [fds] at hx; rcases hx with rfl | rfl <;> rfl
theorem isTup_enc (u : Tm) : isTupD (enc u) = true := by
  cases u with
  | leaf l => cases l <;> rfl
  | _ => rfl
theorem fds_dep (t : Tm) : ∀ u un, Fd.sub u un ∈ fds t → dep u < dep t ∧ cnt u < cnt t := by
  intro u un h
  cases t with
  | leaf l => cases l <;> simp [fds] at h
  | var n => simp [fds] at h
  | bind p x k b => simp [fds] at h; rcases h with ⟨rfl, _⟩ | ⟨rfl, _⟩ <;> simp only [dep, cnt] <;> omega
  | app f a => simp [fds] at h; rcases h with ⟨rfl, _⟩ | ⟨rfl, _⟩ <;> simp only [dep, cnt] <;> omega
  | letE x k v b => simp [fds] at h; rcases h with ⟨rfl, _⟩ | ⟨rfl, _⟩ | ⟨rfl, _⟩ <;> simp only [dep, cnt] <;> omega
abbrev bws : List Str := ["pi", "lam", "let"]
theorem fds_un (t : Tm) : ∀ i u un, (fds t)[i]? = some (.sub u un) → un = (decide (i + 1 = (fds t).length) && decide (wd t ∈ bws)) := by
  intro i u un h
  cases t with
  | leaf l => cases l <;> (have := List.mem_of_getElem? h; simp [fds] at this)
  | var n => have := List.mem_of_getElem? h; simp [fds] at this
  | bind p x k b =>
    have e : decide (wd (.bind p x k b) ∈ bws) = true := by cases p <;> rfl
    rw [e]
    match i, h with
    | 0, h => simp [fds] at h
    | 1, h => simp [fds] at h
    | 2, h => simp [fds] at h; simp [fds, h.2]
    | 3, h => simp [fds] at h; simp [fds, h.2]
    | i + 4, h => simp [fds] at h
  | app f a =>
    have e : decide (wd (.app f a) ∈ bws) = false := by rfl
    rw [e]
    match i, h with
    | 0, h => simp [fds] at h
    | 1, h => simp [fds] at h; simp [h.2]
    | 2, h => simp [fds] at h; simp [h.2]
    | i + 3, h => simp [fds] at h
  | letE x k v b =>
    have e : decide (wd (.letE x k v b) ∈ bws) = true := by rfl
    rw [e]
    match i, h with
    | 0, h => simp [fds] at h
    | 1, h => simp [fds] at h
    | 2, h => simp [fds] at h; simp [fds, h.2]
    | 3, h => simp [fds] at h; simp [fds, h.2]
    | 4, h => simp [fds] at h; simp [fds, h.2]
    | i + 5, h => simp [fds] at h
theorem fds_len (t : Tm) : (fds t).length ≤ 5 := by
  cases t with
  | leaf l => cases l <;> simp [fds]
  | _ => simp [fds]
theorem dxA_ints {H : Hp} : ∀ {ns : List Int} {vs : List V}, DxA H vs (ns.map PyData.int) → vs = ns.map V.int
  | [], _, h => by cases h; rfl
  | n :: ns, _, h => by
    cases h with
    | cons a b =>
      cases a
      rw [dxA_ints b]
      rfl
section
variable {T : Tbl} {K : PySem.W.Frag} {σ : L2.St} {H H' : Hp} {te : TE}
theorem ed_sum {ns : List Int} (h : ED T te σ H (.list (ns.map .int))) : ED T (tCB (rSum K) (tCons te tNil)) σ H (.int ns.sum) := fun H1 g Q q =>
  h H1 g _ fun v H2 g2 hv => by
    cases hv with
    | @lst a xs _ ha hxs =>
    rw [dxA_ints hxs] at ha
    exact ⟨a, ns, rfl, SqL.of ha, q _ H2 g2 (.int _)⟩
theorem ed_max {ns : List Int} {m : Int} (h : ED T te σ H (.list (ns.map .int))) (hm : ∀ x, x ∈ ns → (∀ y ∈ ns, y ≤ x) → x = m) (h0 : 0 < ns.length) : ED T (tCB (rMax K) (tCons te tNil)) σ H (.int m) := fun H1 g Q q =>
  h H1 g _ fun v H2 g2 hv => by
    cases hv with
    | @lst a xs _ ha hxs =>
    rw [dxA_ints hxs] at ha
    exact ⟨a, ns, rfl, SqL.of ha, h0, fun x h1 h2 => by rw [hm x h1 h2]; exact q _ H2 g2 (.int _)⟩
end
/-! ### count -/
abbrev sCount : Stmt := topS 40
theorem scCount : FnScope ["term", "part"] ["term"] (defScope sCount) := ⟨rfl, rfl, rfl, by decide +kernel, rfl, by decide +kernel, by decide +kernel⟩
def rCount (n : Nat) : List PyData → PyData → Prop := fun ds r => ∃ t, ds = [enc t] ∧ dep t < n ∧ r = .int (cnt t)
def Fd.c : Fd → Int
  | .at _ => 0
  | .sub u _ => cnt u
def Fd.isS : Fd → Bool
  | .at _ => false
  | .sub _ _ => true
theorem fd_isS {t : Tm} {x : Fd} (h : x ∈ fds t) : isTupD x.d = x.isS := by
  cases x with
  | «at» d => exact fds_at t _ h d rfl
  | sub u un => exact isTup_enc u
theorem cnt_fds (t : Tm) : (1 : Int) + (((fds t).filter Fd.isS).map Fd.c).sum = cnt t := by
  cases t with
  | var n => rfl
  | leaf l => cases l <;> rfl
  | bind p x k b => show (1 : Int) + ((cnt k : Int) + ((cnt b : Int) + 0)) = ((1 + (cnt k + cnt b) : Nat) : Int); omega
  | app f a => show (1 : Int) + ((cnt f : Int) + ((cnt a : Int) + 0)) = ((1 + (cnt f + cnt a) : Nat) : Int); omega
  | letE x k v b => show (1 : Int) + ((cnt k : Int) + ((cnt v : Int) + ((cnt b : Int) + 0))) = ((1 + (cnt k + (cnt v + cnt b)) : Nat) : Int); omega
section
variable {P : Program} {w : World} {K : PySem.W.Frag} {mg : Str → Option Value} {base : Heap} {T : Tbl} {f : Addr} {fd : FuncData}
theorem ok_count1 {n : Nat} (F : Fun K "_law_count" "_law_count" sCount f fd) (CN : Cal K mg "_law_count" f fd ["term"]) (G : FnOk P w K mg base CX0 (n + 1) f fd ["term"] (spF T (rCount n))) (ms : mg "sum" = none) (mi : mg "isinstance" = none) (mt : mg "tuple" = none) :
    FnOk P w K mg base CX0 (n + 2) f fd ["term"] (spF T (rCount (n + 1))) := by
  refine mkF F scCount (fun ds r ⟨d, e, _⟩ => by rw [e]; rfl) (fun cdv A outer s H vs E ds r hr hR hd hT => ?_)
  obtain ⟨t, rfl, hdep, rfl⟩ := hR
  obtain ⟨v0, rfl, hv0⟩ := dxA1 hd
  refine ⟨_, pss_one (ps_ret (pe_op op_add pe_int (pe_callB (cr_sum rfl) rfl ms PyProof.Rows.boot_sum (pa_cons (pe_lc (own := [("part", 1)]) (g := gName 1) rfl scCount.nd (pi_tup (pv 0)) (blkOk_by (N := ["term", "part"]) (sc := defScope sCount) (by decide +kernel)) (fun _ _ _ _ _ => pg_name (i := 1) scCount.nd rfl (Or.inl rfl))
    (fun _ _ _ _ _ => pts_one (pt_val (pe_callB (r := rIsi K) call_isi rfl mi PyProof.Rows.boot_isinstance (pa_cons (pv 1) (pa_cons (pe_bltn (v := .ty "tuple") rfl mt PyProof.Rows.boot_tuple rfl) pa_nil)))))
    (fun _ _ _ _ _ => pe_call G hr rfl CN.m CN.kp CN.b .nil pass0 (pa_cons (pv 1) pa_nil))) pa_nil)))), ?_⟩
  rw [enc_fds] at hv0
  have hl := ed_lc (T := T) (α := Fd) (L := fds t) (f1 := Fd.d) (f2 := fun x => .int x.c) (b := Fd.isS) (σ := [some v0, none]) (H := H) (g := gName 1) (vs := [1]) (te := tCall (spF T (rCount n)) [] E0 (tCons (tVar 1) tNil)) (tt := tB (tCB (rIsi K) (tCons (tVar 1) (tCons (tC (.ty "tuple")) tNil))))
    (wi := iTup K (tVar 0)) (ei_tup (ed_var rfl hv0)) (by have := fds_len t; omega) (fun _ _ _ => rfl) (fun x hx v H3 g3 hv => ⟨_, fun Q h => h, wipe_set1, et_is (et_B (ed_isi (ed_var (i := 1) rfl hv) (kb_tup _))) (fd_isS hx), fun hb => ?_⟩)
  · refine rd_ret (ed_is (ed_add ed_int (ed_sum (K := K) (ns := ((fds t).filter Fd.isS).map Fd.c) (ed_is hl (by rw [List.map_map]; rfl)))) (congrArg PyData.int (cnt_fds t)))
  · cases x with
    | «at» d =>
      cases hb
    | sub u un =>
      have := fds_dep t u un hx
      exact ed_call (dd := []) (g3.2 hT) (eda_cons (ed_var (i := 1) rfl hv) eda_nil) (fun _ => .nil) ⟨u, rfl, by omega, rfl⟩
theorem ok_count (F : Fun K "_law_count" "_law_count" sCount f fd) (CN : Cal K mg "_law_count" f fd ["term"]) (ms : mg "sum" = none) (mi : mg "isinstance" = none) (mt : mg "tuple" = none) :
    ∀ n, FnOk P w K mg base CX0 (n + 1) f fd ["term"] (spF T (rCount n))
  | 0 => ⟨fun vs H Q E ⟨_, _, _, _, ⟨_, _, h, _⟩, _⟩ => absurd h (Nat.not_lt_zero _), fun A outer s H args us vs Q E _ _ _ _ ⟨_, _, _, _, ⟨_, _, h, _⟩, _⟩ => absurd h (Nat.not_lt_zero _)⟩
  | n + 1 => ok_count1 F CN (ok_count F CN ms mi mt n) ms mi mt
end
/-! ### free -/
def frT : Tm → Nat → List Nat
  | .var n, d => if d ≤ n then [n - d] else []
  | .leaf _, _ => []
  | .bind _ _ k b, d => frT k d ++ frT b (d + 1)
  | .app f a, d => frT f d ++ frT a d
  | .letE _ k v b, d => frT k d ++ (frT v d ++ frT b (d + 1))
theorem frT_len (t : Tm) : ∀ d, (frT t d).length ≤ cnt t := by
  induction t with
  | var n => intro d; show (if d ≤ n then [n - d] else []).length ≤ 1; split <;> simp
  | leaf l => intro d; exact Nat.zero_le _
  | bind p x k b i1 i2 => intro d; have := i1 d; have := i2 (d + 1); simp only [frT, cnt, List.length_append]; omega
  | app f a i1 i2 => intro d; have := i1 d; have := i2 d; simp only [frT, cnt, List.length_append]; omega
  | letE x k v b i1 i2 i3 => intro d; have := i1 d; have := i2 d; have := i3 (d + 1); simp only [frT, cnt, List.length_append]; omega
def Fd.f (d : Nat) : Fd → List Nat
  | .at _ => []
  | .sub u un => frT u (d + (if un = true then 1 else 0))
theorem frT_fds {t : Tm} (d : Nat) (h : ∀ n, t ≠ .var n) : (fds t).flatMap (Fd.f d) = frT t d := by
  cases t with
  | var n => exact absurd rfl (h n)
  | leaf l => cases l <;> rfl
  | bind p x k b => simp [fds, Fd.f, frT]
  | app f a => simp [fds, Fd.f, frT]
  | letE x k v b => simp [fds, Fd.f, frT]
def ilD (l : List Nat) : List PyData := l.map fun n => .int (n : Nat)
abbrev sFree : Stmt := topS 39
theorem scFree : FnScope ["term", "depth", "found", "k", "part"] ["term", "depth"] (defScope sFree) := ⟨rfl, rfl, rfl, by decide +kernel, rfl, by decide +kernel, by decide +kernel⟩
def rFree (n : Nat) : List PyData → PyData → Prop := fun ds r => ∃ (t : Tm) (d : Nat), ds = [enc t, .int d] ∧ dep t < n ∧ cnt t ≤ 20000 ∧ r = .list (ilD (frT t d))
end K1
namespace K1
open PySem PySem.Spec PyProof.Rows L2
section
variable {P : Program} {w : World} {K : PySem.W.Frag} {mg : Str → Option Value} {base : Heap} {T : Tbl} {f : Addr} {fd : FuncData}
theorem flatLen (d : Nat) : ∀ (l : List Fd), (∀ x ∈ l, (Fd.f d x).length ≤ 20000) → l.length ≤ 5 → (l.flatMap (Fd.f d)).length ≤ 100000 := by
  intro l
  have key : ∀ (l : List Fd), (∀ x ∈ l, (Fd.f d x).length ≤ 20000) → (l.flatMap (Fd.f d)).length ≤ 20000 * l.length := by
    intro l
    induction l with
    | nil => intro _; simp
    | cons x l ih =>
      intro h
      rw [List.flatMap_cons, List.length_append, List.length_cons]
      have h1 := h x List.mem_cons_self
      have h2 := ih fun y hy => h y (List.mem_cons_of_mem _ hy)
      omega
  intro h h5
  have := key l h
  omega
theorem ok_free1 {n : Nat} (F : Fun K "_law_free" "_law_free" sFree f fd) (CN : Cal K mg "_law_free" f fd ["term", "depth"]) (G : FnOk P w K mg base CX0 (n + 1) f fd ["term", "depth"] (spF T (rFree n))) (me : mg "enumerate" = none) (mi : mg "isinstance" = none) (mt : mg "tuple" = none) (mn : mg "int" = none) (ml : mg "len" = none) :
    FnOk P w K mg base CX0 (n + 2) f fd ["term", "depth"] (spF T (rFree (n + 1))) := by
  refine mkF F scFree (fun ds r ⟨d, _, e, _⟩ => by rw [e]; rfl) (fun cdv A outer s H vs E ds r hr hR hd hT => ?_)
  obtain ⟨t, dp, rfl, hdep, hcnt, rfl⟩ := hR
  obtain ⟨v0, v1, rfl, hv0, hv1⟩ := dxA2 hd
  cases hv1
  refine ⟨_, pss_cons (ps_if (pt_cmpR op_eq (pxt 0) pe_str (nomark _)) (pss_one (ps_ret (pe_ifExp (pt_cmpR op_ge (pxt 0) (pv 1) (nomark _)) (pe_lst (pa_cons (pe_op op_sub (pxt 0) (pv 1)) pa_nil)) (pe_lst pa_nil)))) pss_nil)
    (pss_cons (ps_set (i := 2) scFree.nd rfl (.inl rfl) (pe_lst pa_nil))
    (pss_cons (ps_for PassesOwn.never rfl (pi_enumT rfl me (pa_cons (pv 0) pa_nil)) (pg_tup (by rfl) (pgs_cons (pg_name (i := 3) scFree.nd rfl (.inl rfl)) (pgs_cons (pg_name (i := 4) scFree.nd rfl (.inl rfl)) pgs_nil)))
      (pss_one (ps_if (pt_val (pe_callB call_isi rfl mi PyProof.Rows.boot_isinstance (pa_cons (pv 4) (pa_cons (pe_bltn (v := .ty "tuple") rfl mt PyProof.Rows.boot_tuple rfl) pa_nil))))
        (pss_one (ps_set (i := 2) scFree.nd rfl (.inl rfl) (pe_op op_cat (pv 2) (pe_call G hr rfl CN.m CN.kp CN.b .nil pass0 (pa_cons (pv 4) (pa_cons (pe_op op_add (pv 1) (pe_callTy call_int1 rfl mn boot_int (pa_cons (pe_and (pe_cmpR op_eq (pv 3) (pe_op op_sub (pe_callB call_len_seq rfl ml boot_len (pa_cons (pv 0) pa_nil)) pe_int) (nomark _))
          (pe_one (pe_cmpR op_in_seq (pxt 0) (pe_lst (pa_cons pe_str (pa_cons pe_str (pa_cons pe_str pa_nil)))) (by rfl)))) pa_nil))) pa_nil)))))) pss_nil)))
    (pss_one (ps_ret (pv 2))))), ?_⟩
  obtain ⟨rest, hrest⟩ := enc_hd t
  have hv0' := hv0
  rw [hrest] at hv0'
  refine rd_when (b := decide (wd t = "var")) (et_test (ed_eqS (ed_x rfl hv0' (atI_nat (j := 0) rfl)) ed_str)) (fun hc H1 g1 => ?_) (fun hc H1 g1 => ?_)
  · obtain ⟨m, rfl⟩ := wd_var (of_decide_eq_true hc)
    refine rd_ret (ed_if (b := decide ((dp : Int) ≤ (m : Int))) (et_test (ed_ge (ed_x rfl (g1.dx hv0) rfl) (ed_var (d := .int dp) rfl (.int _)))) (fun h => ed_is (ed_lst (eda_cons (ed_sub (ed_x (i := 0) (c := 1) (d := .int m) rfl (g1.dx hv0) rfl) (ed_var (i := 1) (d := .int dp) rfl (.int _))) eda_nil)) ?_) (fun h => ed_is (ed_lst eda_nil) ?_))
    · have := of_decide_eq_true h
      show PyData.list [.int ((m : Int) - dp)] = .list (ilD (if dp ≤ m then [m - dp] else []))
      rw [if_pos (by omega)]
      show PyData.list [.int ((m : Int) - dp)] = .list [.int ((m - dp : Nat) : Int)]
      rw [show ((m : Int) - dp) = ((m - dp : Nat) : Int) by omega]
    · have := of_decide_eq_false h
      show PyData.list [] = .list (ilD (if dp ≤ m then [m - dp] else []))
      rw [if_neg (by omega)]
      rfl
  have hnv : ∀ m, t ≠ .var m := fun m e => (of_decide_eq_false hc) (by rw [e]; rfl)
  refine rd_asg (ed_lst eda_nil) fun v2 H2 g2 hv2 => ?_
  intro D q
  have g12 := g1.trans g2
  have h0 := g12.dx hv0
  have h0' := h0
  rw [enc_fds] at h0
  cases h0 with
  | @tup a xs _ ha hxs =>
  have hxl : xs.length = (fds t).length := by rw [hxs.length, List.length_map]
  have fl : ∀ x ∈ fds t, (Fd.f dp x).length ≤ 20000 := fun x hx => by
    cases x with
    | «at» d => exact Nat.zero_le _
    | sub u un => have := fds_dep t u un hx; have := frT_len u (dp + (if un = true then 1 else 0)); simp only [Fd.f]; omega
  have hl5 := fds_len t
  refine ⟨_, rfl, a, xs, rfl, SqT.of ha, for_it (walk_enumT (K := K) (a := a) (xs := xs)) (fun i σ' H' => Gr T H H' ∧ Gr T H2 H' ∧ ∃ v c e, σ' = [some (.ref a), some (.int dp), some v, c, e] ∧ Dx H' v (.list (ilD (((fds t).take i).flatMap (Fd.f dp))))) ⟨g12, Gr.refl _, v2, none, none, rfl, hv2⟩ (fun i σ' H' _ h => SqT.of (h.2.1.tups ha)) ?_ ?_⟩
  · rintro i x σ' H' H'' hi ⟨gr, gr2, v, c, e, rfl, hv⟩ ⟨Tn, y1, y2, rfl, hTn, rfl, hy1, hy2⟩
    cases hy1
    refine ⟨Tn, _, rfl, SqT.of upd_same, rfl, _, _, rfl, _, _, rfl, rfl, ?_⟩
    have gn : Gr T H' (upd H' Tn (.tup [.int (i : Nat), y2])) := Gr.new hTn
    generalize hH3 : upd H' Tn (.tup [.int (i : Nat), y2]) = H3 at gn ⊢
    have gr3 := gr.trans gn
    have hi' : i < (fds t).length := by omega
    obtain ⟨x, hx⟩ : ∃ x, (fds t)[i]? = some x := ⟨_, List.getElem?_eq_getElem hi'⟩
    obtain ⟨y, hy, hdy⟩ := hxs.get (i := i) (d := x.d) (by rw [List.getElem?_map, hx]; rfl)
    have hy2 : xs[i]? = some y2 := hy2
    rw [hy2] at hy
    cases hy
    have hdy3 := (gr2.trans gn).dx hdy
    have hv3 := gn.dx hv
    have ht : (fds t).take (i + 1) = (fds t).take i ++ [x] := by rw [List.take_succ, hx]; rfl
    refine (et_B (T := T) (ed_isi (K := K) (ed_var (i := 4) (σ := [some (.ref a), some (.int dp), some v, some (.int (i : Nat)), some y2]) rfl hdy3) (kb_tup _))) H3 (Gr.refl _) _ fun H4 g4 => ?_
    rw [fd_isS (List.mem_of_getElem? hx)]
    cases x with
    | «at» d =>
      rw [show Fd.isS (.at d) = false from rfl, if_neg Bool.false_ne_true]
      refine ⟨gr3.trans g4, (gr2.trans gn).trans g4, v, _, _, rfl, ?_⟩
      rw [ht, List.flatMap_append]
      have e0 : [Fd.at d].flatMap (Fd.f dp) = [] := rfl
      rw [e0, List.append_nil]
      exact g4.dx hv3
    | sub u un =>
      rw [show Fd.isS (.sub u un) = true from rfl, if_pos rfl]
      have hu := fds_dep t u un (List.mem_of_getElem? hx)
      have hun := fds_un t i u un hx
      have g34 := (gr2.trans gn).trans g4
      have h0a := g34.dx h0'
      have h0b := h0a
      rw [hrest] at h0b
      have earg : ED T (tCB (fun xs H Q => (∃ i, xs = [.int i] ∧ Q (.int i) H) ∨ ∃ k, xs = [.bl k] ∧ Q (.int (if k then 1 else 0)) H) (tCons (tAndV (tOp rEq (tVar 3) (tOp (rI0 fun i j => .int (i - j)) (tCB (fun xs H Q => ∃ p ys, xs = [.ref p] ∧ (SqL K H p ys ∨ SqT K H p ys) ∧ Q (.int ys.length) H) (tCons (tVar 0) tNil)) (tC (.int 1))))
          (tOp (rIn K false) (tOp (rIxT K) (tVar 0) (tC (.int 0))) (tLst (tCons (tC (.str "pi")) (tCons (tC (.str "lam")) (tCons (tC (.str "let")) tNil)))))) tNil)) [some (.ref a), some (.int dp), some v, some (.int (i : Nat)), some y2] H4 (.int (if un = true then 1 else 0)) := by
        rw [hun]
        refine ed_intB (ed_andV (ed_is (ed_eqI (ed_var (i := 3) (d := .int (i : Nat)) rfl (.int _)) (ed_sub (ed_lenT (ed_var (i := 0) rfl h0b)) ed_int)) ?_) (fun _ => ed_inL bws (ed_x (i := 0) rfl h0b (atI_nat (j := 0) rfl)) (ed_lst (eda_cons ed_str (eda_cons ed_str (eda_cons ed_str eda_nil))))))
        have el : (PyData.str (wd t) :: rest).length = (fds t).length := by
          have e2 := hrest
          rw [enc_fds] at e2
          injection e2 with e2
          rw [← e2, List.length_map]
        congr 1
        exact dec_iff ⟨fun h => by rw [el] at h; omega, fun h => by rw [el]; omega⟩
      refine s_set (T := T) (i := 2) (d := .list (ilD (((fds t).take i).flatMap (Fd.f dp)) ++ ilD (Fd.f dp (.sub u un)))) (ed_catL (ed_var (i := 2) rfl (g4.dx hv3)) (ed_call (R := rFree n) (dd := []) (ds := [enc u, .int ((dp + (if un = true then 1 else 0) : Nat) : Int)]) ((gr3.trans g4).2 hT)
        (eda_cons (ed_var (i := 4) rfl (g4.dx hdy3)) (eda_cons (ed_is (ed_add (ed_var (i := 1) (d := .int dp) rfl (.int _)) earg) ?_) eda_nil)) (fun _ => .nil) ⟨u, _, rfl, by omega, by omega, rfl⟩) ?_) fun v5 H5 g5 hv5 => ?_
      · cases un <;> rfl
      · have h1 : (ilD (((fds t).take i).flatMap (Fd.f dp))).length + (ilD (Fd.f dp (.sub u un))).length ≤ (((fds t).take (i + 1)).flatMap (Fd.f dp)).length := by
          rw [ht, List.flatMap_append, List.length_append]
          simp [ilD]
        have h2 := flatLen dp ((fds t).take (i + 1)) (fun x hx => fl x (List.mem_of_mem_take hx)) (by rw [List.length_take]; omega)
        omega
      · refine ⟨(gr3.trans g4).trans g5, g34.trans g5, v5, _, _, rfl, ?_⟩
        rw [ht, List.flatMap_append]
        have e0 : [Fd.sub u un].flatMap (Fd.f dp) = Fd.f dp (.sub u un) := by simp
        rw [e0]
        unfold ilD
        rw [List.map_append]
        exact hv5
  · rintro σ' H' ⟨gr, gr2, v, c, e, rfl, hv⟩
    rw [hxl, List.take_length, frT_fds dp hnv] at hv
    exact ⟨v, rfl, q v H' gr2 hv⟩
theorem ok_free (F : Fun K "_law_free" "_law_free" sFree f fd) (CN : Cal K mg "_law_free" f fd ["term", "depth"]) (me : mg "enumerate" = none) (mi : mg "isinstance" = none) (mt : mg "tuple" = none) (mn : mg "int" = none) (ml : mg "len" = none) :
    ∀ n, FnOk P w K mg base CX0 (n + 1) f fd ["term", "depth"] (spF T (rFree n))
  | 0 => ⟨fun vs H Q E ⟨_, _, _, _, ⟨_, _, _, h, _⟩, _⟩ => absurd h (Nat.not_lt_zero _), fun A outer s H args us vs Q E _ _ _ _ ⟨_, _, _, _, ⟨_, _, _, h, _⟩, _⟩ => absurd h (Nat.not_lt_zero _)⟩
  | n + 1 => ok_free1 F CN (ok_free F CN me mi mt mn ml n) me mi mt mn ml
end
end K1
namespace K1
open PySem PySem.Spec PyProof.Rows L2
/-! ### put -/
mutual
def putD (z : Str) (v : PyData) : PyData → PyData
  | .str s => if s = z then v else .str s
  | .tuple ds => .tuple (putA z v ds)
  | d => d
def putA (z : Str) (v : PyData) : List PyData → List PyData
  | [] => []
  | d :: ds => putD z v d :: putA z v ds
end
theorem putA_map (z : Str) (v : PyData) : ∀ ds, putA z v ds = ds.map (putD z v)
  | [] => rfl
  | d :: ds => by show putD z v d :: putA z v ds = _; rw [putA_map]; rfl
mutual
theorem nl_putD {z : Str} {v : PyData} (hv : nl v = true) : ∀ d, nl d = true → nl (putD z v d) = true
  | .none, _ => rfl
  | .bool _, _ => rfl
  | .int _, _ => rfl
  | .str s, _ => by show nl (if s = z then v else .str s) = true; split; exact hv; rfl
  | .list _, h => h
  | .tuple ds, h => nl_putA hv ds h
  | .dict _, _ => rfl
theorem nl_putA {z : Str} {v : PyData} (hv : nl v = true) : ∀ ds, nlA ds = true → nlA (putA z v ds) = true
  | [], _ => rfl
  | d :: ds, h => by
    have h : (nl d && nlA ds) = true := h
    rw [Bool.and_eq_true] at h
    show (nl (putD z v d) && nlA (putA z v ds)) = true
    rw [nl_putD hv d h.1, nl_putA hv ds h.2]
    rfl
end
theorem nlA_mem {ds : List PyData} (h : nlA ds = true) : ∀ d ∈ ds, nl d = true := by
  induction ds with
  | nil => intro d hd; cases hd
  | cons e ds ih =>
    have h : (nl e && nlA ds) = true := h
    rw [Bool.and_eq_true] at h
    intro d hd
    rcases List.mem_cons.mp hd with rfl | hd
    · exact h.1
    · exact ih h.2 d hd
theorem layA_mem {ds : List PyData} (h : PyData.canLayAll0 ds = true) : ∀ d ∈ ds, d.canLay0 = true := by
  induction ds with
  | nil => intro d hd; cases hd
  | cons e ds ih =>
    have h : (e.canLay0 && PyData.canLayAll0 ds) = true := by simpa only [PyData.canLayAll0] using h
    rw [Bool.and_eq_true] at h
    intro d hd
    rcases List.mem_cons.mp hd with rfl | hd
    · exact h.1
    · exact ih h.2 d hd
theorem depthA_mem {ds : List PyData} : ∀ d ∈ ds, d.depth ≤ PyData.depthAll ds := by
  induction ds with
  | nil => intro d hd; cases hd
  | cons e ds ih =>
    intro d hd
    have e1 : PyData.depthAll (e :: ds) = max e.depth (PyData.depthAll ds) := by simp only [PyData.depthAll]
    rw [e1]
    rcases List.mem_cons.mp hd with rfl | hd
    · omega
    · have := ih d hd; omega
def isZ (z : Str) : PyData → Bool
  | .str s => decide (s = z)
  | _ => false
theorem eqv_str (d : PyData) (z : Str) (hn : ∀ b, d ≠ .bool b) : PyData.eqv d (.str z) = isZ z d := by
  cases d with
  | str s => simp only [PyData.eqv, isZ]; rw [Bool.eq_iff_iff]; simp
  | bool b => exact absurd rfl (hn b)
  | _ => simp only [PyData.eqv, isZ]
/-! texts, numbers, short tuples of them -/
mutual
def plain : PyData → Bool
  | .str _ => true
  | .int _ => true
  | .tuple ds => decide (ds.length ≤ 10) && plainA ds
  | _ => false
def plainA : List PyData → Bool
  | [] => true
  | d :: ds => plain d && plainA ds
end
theorem plainA_mem {ds : List PyData} (h : plainA ds = true) : ∀ d ∈ ds, plain d = true := by
  induction ds with
  | nil => intro d hd; cases hd
  | cons e ds ih =>
    have h : (plain e && plainA ds) = true := h
    rw [Bool.and_eq_true] at h
    intro d hd
    rcases List.mem_cons.mp hd with rfl | hd
    · exact h.1
    · exact ih h.2 d hd
mutual
theorem plain_nl : ∀ d, plain d = true → nl d = true
  | .str _, _ => rfl
  | .int _, _ => rfl
  | .tuple ds, h => plain_nlA ds (Bool.and_eq_true_iff.mp h).2
  | .none, h => by cases h
  | .bool _, h => by cases h
  | .list _, h => by cases h
  | .dict _, h => by cases h
theorem plain_nlA : ∀ ds, plainA ds = true → nlA ds = true
  | [], _ => rfl
  | d :: ds, h => by
    have h : (plain d && plainA ds) = true := h
    rw [Bool.and_eq_true] at h
    show (nl d && nlA ds) = true
    rw [plain_nl d h.1, plain_nlA ds h.2]
    rfl
end
abbrev sPut : Stmt := topS 41
theorem scPut : FnScope ["named", "name", "value", "part"] ["named", "name", "value"] (defScope sPut) := ⟨rfl, rfl, rfl, by decide +kernel, rfl, by decide +kernel, by decide +kernel⟩
def rPut (n : Nat) : List PyData → PyData → Prop := fun ds r => ∃ (d : PyData) (z : Str) (v : PyData), ds = [d, .str z, v] ∧ d.depth < n ∧ d.depth ≤ 60 ∧ d.canLay0 = true ∧ (PyData.str z).canLay0 = true ∧ plain d = true ∧ nl v = true ∧ r = putD z v d
section
variable {P : Program} {w : World} {K : PySem.W.Frag} {mg : Str → Option Value} {base : Heap} {T : Tbl} {f : Addr} {fd : FuncData}
theorem ok_put1 {n : Nat} (F : Fun K "_law_put" "_law_put" sPut f fd) (CN : Cal K mg "_law_put" f fd ["named", "name", "value"]) (G : FnOk P w K mg base CX0 (n + 1) f fd ["named", "name", "value"] (spF T (rPut n))) (mi : mg "isinstance" = none) (mt : mg "tuple" = none) :
    FnOk P w K mg base CX0 (n + 2) f fd ["named", "name", "value"] (spF T (rPut (n + 1))) := by
  refine mkF F scPut (fun ds r ⟨d, _, _, e, _⟩ => by rw [e]; rfl) (fun cdv A outer s H vs E ds r hr hR hd hT => ?_)
  obtain ⟨d, z, v, rfl, hdep, hd60, hlay, hlz, hpl, hnv, rfl⟩ := hR
  obtain ⟨v0, v1, v2, rfl, hv0, hv1, hv2⟩ := dxA3 hd
  cases hv1
  have hu : (A.deeper (envOfC "_law_put" (defScope sPut) s.heap.objs.size f cdv)).units + 64 < cLine := by have := hr.un; omega
  refine ⟨_, pss_cons (ps_if (pt_cmpR (op_eqD hu) (pv 0) (pv 1) (nomark _)) (pss_one (ps_ret (pv 2))) pss_nil)
    (pss_one (ps_ret (pe_ifExp (pt_val (pe_callB call_isi rfl mi PyProof.Rows.boot_isinstance (pa_cons (pv 0) (pa_cons (pe_bltn (v := .ty "tuple") rfl mt PyProof.Rows.boot_tuple rfl) pa_nil))))
      (pe_callTy call_tuple_of rfl mt PyProof.Rows.boot_tuple (pa_cons (pe_lc (own := [("part", 3)]) (g := gName 3) (tt := tYes) rfl scPut.nd (pi_tup (pv 0)) (blkOk_by (N := ["named", "name", "value", "part"]) (sc := defScope sPut) (by decide +kernel)) (fun _ _ _ _ _ => pg_name (i := 3) scPut.nd rfl (Or.inl rfl)) (fun _ _ _ _ _ => pts_nil)
        (fun _ _ _ _ _ => pe_call G hr rfl CN.m CN.kp CN.b .nil pass0 (pa_cons (pv 3) (pa_cons (pv 1) (pa_cons (pv 2) pa_nil))))) pa_nil)) (pv 0)))), ?_⟩
  refine rd_when (b := isZ z d) (et_is (et_test (ed_eqD (ed_var (i := 0) rfl hv0) (ed_var (i := 1) (d := .str z) rfl (.str z)) (shaped_of hlay (by omega)) (shaped_of hlz (Nat.zero_le _)))) (eqv_str d z (fun b e => by subst e; cases hpl))) (fun hc H1 g1 => ?_) (fun hc H1 g1 => ?_)
  · refine rd_ret (ed_is (ed_var (i := 2) rfl (g1.dx hv2)) ?_)
    cases d with
    | str s =>
      have := of_decide_eq_true hc
      show v = if s = z then v else .str s
      rw [if_pos this]
    | _ => cases hc
  · have h0 := g1.dx hv0
    have h2 := g1.dx hv2
    refine rd_ret (ed_if (b := isTupD d) (et_B (ed_isi (ed_var (i := 0) rfl h0) (kb_tup d))) (fun ht => ?_) (fun ht => ed_is (ed_var (i := 0) rfl h0) ?_))
    · obtain ⟨es, rfl⟩ : ∃ es, d = .tuple es := by cases d <;> first | exact ⟨_, rfl⟩ | cases ht
      have hp2 := Bool.and_eq_true_iff.mp hpl
      have hl10 := of_decide_eq_true hp2.1
      have hlay2 : PyData.canLayAll0 es = true := by simpa only [PyData.canLay0] using hlay
      have hde : (PyData.tuple es).depth = PyData.depthAll es + 1 := by simp only [PyData.depth]
      refine ed_is (ed_tupL (K := K) (ed_lcA (α := PyData) (L := es) (f1 := id) (f2 := putD z v) (g := gName 3) (vs := [3]) (te := tCall (spF T (rPut n)) [] E0 (tCons (tVar 3) (tCons (tVar 1) (tCons (tVar 2) tNil)))) (wi := iTup K (tVar 0)) (ei_tup (by rw [List.map_id]; exact ed_var (i := 0) rfl h0)) (by omega)
        (fun e he => nl_putD hnv e (plain_nl e (plainA_mem hp2.2 e he))) (fun e he x H3 g3 hx => ⟨_, fun Q h => h, wipe_set1, ed_call (dd := []) ((g1.trans g3).2 hT) (eda_cons (ed_var (i := 3) rfl hx) (eda_cons (ed_var (i := 1) (d := .str z) rfl (.str z)) (eda_cons (ed_var (i := 2) rfl (g3.dx h2)) eda_nil))) (fun _ => .nil)
          ⟨e, z, v, rfl, by have := depthA_mem e he; omega, by have := depthA_mem e he; omega, layA_mem hlay2 e he, hlz, plainA_mem hp2.2 e he, hnv, rfl⟩⟩))) ?_
      show PyData.tuple (es.map (putD z v)) = .tuple (putA z v es)
      rw [putA_map]
    · cases d with
      | str s =>
        have := of_decide_eq_false hc
        show PyData.str s = if s = z then v else .str s
        rw [if_neg this]
      | tuple es => cases ht
      | _ => rfl
theorem ok_put (F : Fun K "_law_put" "_law_put" sPut f fd) (CN : Cal K mg "_law_put" f fd ["named", "name", "value"]) (mi : mg "isinstance" = none) (mt : mg "tuple" = none) :
    ∀ n, FnOk P w K mg base CX0 (n + 1) f fd ["named", "name", "value"] (spF T (rPut n))
  | 0 => ⟨fun vs H Q E ⟨_, _, _, _, ⟨_, _, _, _, h, _⟩, _⟩ => absurd h (Nat.not_lt_zero _), fun A outer s H args us vs Q E _ _ _ _ ⟨_, _, _, _, ⟨_, _, _, _, h, _⟩, _⟩ => absurd h (Nat.not_lt_zero _)⟩
  | n + 1 => ok_put1 F CN (ok_put F CN mi mt n) mi mt
end
end K1
namespace K1
open PySem PySem.Spec PyProof.Rows L2
/-! ### back -/
theorem nl_encB : ∀ m : Bk, nl (encB m) = true
  | .var i => rfl
  | .free s => rfl
  | .leaf l => nl_encL l
  | .app f a => by show (true && (nl (encB f) && (nl (encB a) && true))) = true; rw [nl_encB f, nl_encB a]; rfl
  | .bind p k b => by show (true && (nl (encB k) && (nl (encB b) && true))) = true; rw [nl_encB k, nl_encB b]; rfl
  | .letE k v b => by show (true && (nl (encB k) && (nl (encB v) && (nl (encB b) && true)))) = true; rw [nl_encB k, nl_encB v, nl_encB b]; rfl
def dpN : Nm → Nat
  | .fre _ => 1
  | .leaf _ => 1
  | .app f a => max (dpN f) (dpN a) + 1
  | .bind _ k _ b => max (dpN k) (dpN b) + 1
  | .letE k v _ b => max (dpN k) (max (dpN v) (dpN b)) + 1
theorem dpN_nam (t : Tm) : ∀ ns fr, dpN (nam t ns fr) = dep t := by
  induction t with
  | var n => intro ns fr; rfl
  | leaf l => intro ns fr; rfl
  | bind p x k b i1 i2 => intro ns fr; show max (dpN (nam k ns fr)) (dpN (nam b _ fr)) + 1 = _; rw [i1, i2]; rfl
  | app f a i1 i2 => intro ns fr; show max (dpN (nam f ns fr)) (dpN (nam a ns fr)) + 1 = _; rw [i1, i2]; rfl
  | letE x k v b i1 i2 i3 => intro ns fr; show max (dpN (nam k ns fr)) (max (dpN (nam v ns fr)) (dpN (nam b _ fr))) + 1 = _; rw [i1, i2, i3]; rfl
section
variable {T : Tbl} {K : PySem.W.Frag} {σ : L2.St} {H H' : Hp} {te ta tb : TE}
/-- t[lo:] -/
theorem ed_slTo {ds : List PyData} {lo : Nat} (h : ED T te σ H (.tuple ds)) (h1 : ED T ta σ H (.int lo)) (hlo : 0 < lo) (hh : lo ≤ ds.length) : ED T (tSl (rSlA K) te (tPart ta) tNoPart) σ H (.tuple (ds.drop lo)) := fun H1 g Q q =>
  h H1 g _ fun v H2 g2 hv => h1 H2 (g.trans g2) _ fun v1 H3 g3 hv1 => by
    cases hv1
    refine ⟨lo, rfl, ?_⟩
    have hv4 := g3.dx hv
    cases hv4 with
    | @tup a xs _ ha hxs =>
    have hl := hxs.length
    have e1 : HT.sIx xs.length 0 (some (lo : Int)) = lo := by rw [HT.sIx_nat]; omega
    refine ⟨a, xs, rfl, SqT.of ha, fun hc => ?_, fun _ p hp => ?_⟩
    · exfalso
      rw [e1] at hc
      omega
    · refine q _ _ ((g2.trans g3).trans (Gr.new hp)) (.tup (xs := cutV xs (some (lo : Int)) none) upd_same ?_)
      have e3 : cutV xs (some (lo : Int)) none = xs.drop lo := by
        unfold cutV
        rw [e1, HT.sIx_none]
        exact List.take_of_length_le (by rw [List.length_drop]; exact Nat.le_refl _)
      rw [e3]
      have q2 := take_drop_dxA lo (ds.length - lo) hxs
      rw [List.take_of_length_le (by rw [List.length_drop]; omega), List.take_of_length_le (by rw [List.length_drop]; omega)] at q2
      exact (Gr.new (T := T) hp).dxA q2
theorem eqV_str (a b : Str) : eqV (.str a) (.str b) = decide (a = b) := by
  show (a == b) = _
  rw [Bool.eq_iff_iff]
  simp
theorem idx_lt {s : Str} : ∀ {l : List Str} {i : Nat}, i < l.idxOf s → l[i]? ≠ some s
  | [], i, _ => by simp
  | a :: l, i, h => by
    rw [List.idxOf_cons] at h
    cases hb : a == s with
    | true => rw [hb] at h; exact absurd h (Nat.not_lt_zero _)
    | false =>
      rw [hb] at h
      cases i with
      | zero => intro z; simp at z; rw [z] at hb; simp at hb
      | succ i => intro z; exact idx_lt (l := l) (i := i) (by simpa using h) (by simpa using z)
/-- l.index(s) -/
theorem ed_index {bd : List Str} {s : Str} (h : ED T ta σ H (.list (bd.map .str))) (hb : ED T tb σ H (.str s)) (hm : s ∈ bd) : ED T (tBM K "list" (rIndex K) ta (tCons tb tNil)) σ H (.int (bd.idxOf s : Nat)) := fun H1 g Q q =>
  h H1 g _ fun v H2 g2 hv => by
    cases hv with
    | @lst a xs _ ha hxs =>
    have ex := dxA_strs hxs
    subst ex
    refine .inl ⟨rfl, _, SqL.of ha⟩ |> fun z => ⟨z, hb H2 (g.trans g2) _ fun w H3 g3 hw => ?_⟩
    cases hw
    have hlt : bd.idxOf s < bd.length := List.idxOf_lt_length_iff.mpr hm
    refine ⟨a, bd.map V.str, .str s, bd.idxOf s, .str s, rfl, rfl, SqL.of (g3.lsts ha), rfl, flat_strs bd, ?_, ?_, fun m z' hlt2 hz => ?_, q _ H3 (g2.trans g3) (.int _)⟩
    · rw [List.getElem?_map, List.getElem?_eq_getElem hlt, List.getElem_idxOf hlt]
      rfl
    · rw [eqV_str]; exact decide_eq_true rfl
    · rw [List.getElem?_map] at hz
      cases e : bd[m]? with
      | none => rw [e] at hz; cases hz
      | some s' =>
        rw [e] at hz
        cases hz
        rw [eqV_str]
        exact decide_eq_false fun z => idx_lt hlt2 (by rw [e, z])
end
abbrev sBack : Stmt := topS 42
theorem scBack : FnScope ["named", "bound", "mine", "body", "part"] ["named", "bound"] (defScope sBack) := ⟨rfl, rfl, rfl, by decide +kernel, rfl, by decide +kernel, by decide +kernel⟩
def rBack (n : Nat) : List PyData → PyData → Prop := fun ds r => ∃ (m : Nm) (bd : List Str), ds = [encN m, .list (bd.map .str)] ∧ dpN m < n ∧ bd.length + dpN m ≤ 1000 ∧ r = encB (bk m bd)
/-- a named binder's parts -/
structure BindN (n : Nat) (m : Nm) (bd : List Str) (w mi : Str) (ks : List Nm) (b : Nm) : Prop where
  e : encN m = .tuple (.str w :: (ks.map encN ++ [.str mi, encN b]))
  one : 1 ≤ ks.length
  two : ks.length ≤ 2
  hk : ∀ u ∈ ks, dpN u < n ∧ bd.length + dpN u ≤ 1000
  hb : dpN b < n ∧ bd.length + 1 + dpN b ≤ 1000
  r : encB (bk m bd) = .tuple (.str w :: (ks.map (fun u => encB (bk u bd)) ++ [encB (bk b (mi :: bd))]))
section
variable {P : Program} {w : World} {K : PySem.W.Frag} {mg : Str → Option Value} {base : Heap} {T : Tbl} {f : Addr} {fd : FuncData}
theorem ok_back1 {n : Nat} (F : Fun K "_law_back" "_law_back" sBack f fd) (CN : Cal K mg "_law_back" f fd ["named", "bound"]) (G : FnOk P w K mg base CX0 (n + 1) f fd ["named", "bound"] (spF T (rBack n))) (mi : mg "isinstance" = none) (ms : mg "str" = none) (ml : mg "len" = none) (mt : mg "tuple" = none) :
    FnOk P w K mg base CX0 (n + 2) f fd ["named", "bound"] (spF T (rBack (n + 1))) := by
  refine mkF F scBack (fun ds r ⟨d, _, e, _⟩ => by rw [e]; rfl) (fun cdv A outer s H vs E ds r hr hR hd hT => ?_)
  obtain ⟨m, bd, rfl, hdep, hlen, rfl⟩ := hR
  obtain ⟨v0, v1, rfl, hv0, hv1⟩ := dxA2 hd
  refine ⟨_, pss_cons (ps_if (pt_val (pe_callB call_isi rfl mi PyProof.Rows.boot_isinstance (pa_cons (pv 0) (pa_cons (pe_bltn (v := .ty "str") rfl ms PyProof.Rows.boot_str rfl) pa_nil)))) (pss_one (ps_ret (pe_ifExp (pt_cmpR op_in_seq (pv 0) (pv 1) (by rfl))
        (pe_tup (pa_cons pe_str (pa_cons (pe_bm PySem.F.plainAttrs_list PySem.F.slot_list_index PySem.F.type_list_index mt_index (pv 1) (pa_cons (pv 0) pa_nil)) pa_nil))) (pe_tup (pa_cons pe_str (pa_cons (pv 0) pa_nil)))))) pss_nil)
    (pss_cons (ps_if (pt_cmpR op_in_seq (pxt 0) (pe_lst (pa_cons pe_str (pa_cons pe_str (pa_cons pe_str pa_nil)))) (by rfl)) (pss_one (ps_ret (pv 0))) pss_nil)
    (pss_cons (ps_if (pt_cmpR op_eq (pxt 0) pe_str (nomark _)) (pss_one (ps_ret (pe_tup (pa_cons pe_str (pa_cons (pe_call G hr rfl CN.m CN.kp CN.b .nil pass0 (pa_cons (pxt 0) (pa_cons (pv 1) pa_nil)))
        (pa_cons (pe_call G hr rfl CN.m CN.kp CN.b .nil pass0 (pa_cons (pxt 0) (pa_cons (pv 1) pa_nil))) pa_nil)))))) pss_nil)
    (pss_cons (ps_asg (pe_slice sl_tupA (pv 0) (po_some (pe_op op_sub (pe_callB call_len_seq rfl ml boot_len (pa_cons (pv 0) pa_nil)) pe_int)) po_none) (pg_tup (by rfl) (pgs_cons (pg_name (i := 2) scBack.nd rfl (.inl rfl)) (pgs_cons (pg_name (i := 3) scBack.nd rfl (.inl rfl)) pgs_nil))))
    (pss_one (ps_ret (pe_op op_catA (pe_op op_catA (pe_tup (pa_cons (pxt 0) pa_nil)) (pe_callTy call_tuple_of rfl mt PyProof.Rows.boot_tuple (pa_cons (pe_lc (own := [("part", 4)]) (g := gName 4) (tt := tYes) rfl scBack.nd
        (pi_tup (pe_slice sl_tupA (pv 0) (po_some pe_int) (po_some (pe_op op_sub (pe_callB call_len_seq rfl ml boot_len (pa_cons (pv 0) pa_nil)) pe_int)))) (blkOk_by (N := ["named", "bound", "mine", "body", "part"]) (sc := defScope sBack) (by decide +kernel)) (fun _ _ _ _ _ => pg_name (i := 4) scBack.nd rfl (Or.inl rfl)) (fun _ _ _ _ _ => pts_nil)
        (fun _ _ _ _ _ => pe_call G hr rfl CN.m CN.kp CN.b .nil pass0 (pa_cons (pv 4) (pa_cons (pv 1) pa_nil)))) pa_nil)))
      (pe_tup (pa_cons (pe_call G hr rfl CN.m CN.kp CN.b .nil pass0 (pa_cons (pv 3) (pa_cons (pe_op op_cat (pe_lst (pa_cons (pv 2) pa_nil)) (pv 1)) pa_nil))) pa_nil)))))))), ?_⟩
  have hlm : (bd.map PyData.str).length = bd.length := List.length_map _
  refine rd_when (b := isStrD (encN m)) (et_B (ed_isi (ed_var (i := 0) rfl hv0) (kb_str _))) (fun hc H1 g1 => ?_) (fun hc H1 g1 => ?_)
  · obtain ⟨s, rfl⟩ : ∃ s, m = .fre s := by
      cases m with
      | fre s => exact ⟨s, rfl⟩
      | leaf l => cases l <;> cases hc
      | bind p k m b => cases hc
      | _ => cases hc
    have h0 : Dx H1 v0 (.str s) := g1.dx hv0
    have h1 := g1.dx hv1
    refine rd_ret (ed_if (b := decide (s ∈ bd)) (et_test (ed_inL bd (ed_var (i := 0) rfl h0) (ed_var (i := 1) rfl h1))) (fun hm => ed_is (ed_tup (eda_cons ed_str (eda_cons (ed_index (K := K) (ed_var (i := 1) rfl h1) (ed_var (i := 0) rfl h0) (of_decide_eq_true hm)) eda_nil))) ?_) (fun hm => ed_is (ed_tup (eda_cons ed_str (eda_cons (ed_var (i := 0) rfl h0) eda_nil))) ?_))
    · show _ = encB (if s ∈ bd then Bk.var (bd.idxOf s) else .free s)
      rw [if_pos (of_decide_eq_true hm)]
      rfl
    · show _ = encB (if s ∈ bd then Bk.var (bd.idxOf s) else .free s)
      rw [if_neg (of_decide_eq_false hm)]
      rfl
  have h0 := g1.dx hv0
  have h1 := g1.dx hv1
  have hT1 := g1.2 hT
  have hw : ∃ wd rest, encN m = .tuple (.str wd :: rest) ∧ (wd ∈ lws → ∃ l, m = .leaf l) ∧ (wd = "app" → ∃ a b, m = .app a b) ∧ (wd ∉ lws → wd ≠ "app" → ∃ mi ks b, BindN n m bd wd mi ks b) := by
    cases m with
    | fre s => cases hc
    | leaf l => cases l <;> exact ⟨_, _, rfl, fun _ => ⟨_, rfl⟩, fun z => absurd z (by decide), fun z => absurd (by decide) z⟩
    | app a b => exact ⟨_, _, rfl, fun z => absurd z nin_app, fun _ => ⟨a, b, rfl⟩, fun _ z => absurd rfl z⟩
    | bind p k mi b =>
      simp only [dpN] at hdep hlen
      exact ⟨_, _, rfl, fun z => absurd z (nin_bw p), fun z => absurd z (app_bw p), fun _ _ => ⟨mi, [k], b, ⟨rfl, (one_two k k).1, (one_two k k).2.1, fun u hu => by rw [List.mem_singleton.mp hu]; exact ⟨by omega, by omega⟩, ⟨by omega, by omega⟩, rfl⟩⟩⟩
    | letE k v mi b =>
      simp only [dpN] at hdep hlen
      refine ⟨_, _, rfl, fun z => absurd z nin_let, fun z => absurd z app_let, fun _ _ => ⟨mi, [k, v], b, ⟨rfl, (one_two k v).2.2.1, (one_two k v).2.2.2, fun u hu => ?_, ⟨by omega, by omega⟩, rfl⟩⟩⟩
      simp at hu
      rcases hu with rfl | rfl <;> exact ⟨by omega, by omega⟩
  obtain ⟨wd, rest, hrest, hw1, hw2, hw3⟩ := hw
  have h0' := h0
  rw [hrest] at h0'
  refine rd_when (b := decide (wd ∈ lws)) (et_test (ed_inL lws (ed_x (i := 0) rfl h0' (atI_nat (j := 0) rfl)) (ed_lst (eda_cons ed_str (eda_cons ed_str (eda_cons ed_str eda_nil)))))) (fun hc2 H2 g2 => ?_) (fun hc2 H2 g2 => ?_)
  · obtain ⟨l, rfl⟩ := hw1 (of_decide_eq_true hc2)
    exact rd_ret (ed_var (i := 0) rfl (g2.dx h0))
  refine rd_when (b := decide (wd = "app")) (et_test (ed_eqS (ed_x (i := 0) rfl (g2.dx h0') (atI_nat (j := 0) rfl)) ed_str)) (fun hc3 H3 g3 => ?_) (fun hc3 H3 g3 => ?_)
  · obtain ⟨a, b, rfl⟩ := hw2 (of_decide_eq_true hc3)
    have g23 := g2.trans g3
    have h03 : Dx H3 v0 (.tuple [.str "app", encN a, encN b]) := g23.dx h0
    have h13 := g23.dx h1
    simp only [dpN] at hdep hlen
    have ca : ∀ {c : Int} {u : Nm}, atI [PyData.str "app", encN a, encN b] c = some (encN u) → dpN u < n → bd.length + dpN u ≤ 1000 → ED T (tCall (spF T (rBack n)) [] E0 (tCons (tOp (rIxT K) (tVar 0) (tC (.int c))) (tCons (tVar 1) tNil))) [some v0, some v1, none, none, none] H3 (encB (bk u bd)) := fun h1' h2 h3 =>
      ed_call (dd := []) (g23.2 hT1) (eda_cons (ed_x (i := 0) rfl h03 h1') (eda_cons (ed_var (i := 1) rfl h13) eda_nil)) (fun _ => .nil) ⟨_, bd, rfl, h2, h3, rfl⟩
    exact rd_ret (ed_is (ed_tup (eda_cons ed_str (eda_cons (ca (u := a) rfl (by omega) (by omega)) (eda_cons (ca (u := b) rfl (by omega) (by omega)) eda_nil)))) rfl)
  obtain ⟨mi', ks, b, Z⟩ := hw3 (of_decide_eq_false hc2) (of_decide_eq_false hc3)
  have g23 := g2.trans g3
  have h03 := g23.dx h0
  have h13 := g23.dx h1
  have hT3 := g23.2 hT1
  rw [Z.e] at h03
  rw [Z.r]
  have hl5 : (PyData.str wd :: (ks.map encN ++ [.str mi', encN b])).length = ks.length + 3 := by simp
  have hdrop : (PyData.str wd :: (ks.map encN ++ [.str mi', encN b])).drop (ks.length + 1) = [.str mi', encN b] := by
    show (ks.map encN ++ [.str mi', encN b]).drop ks.length = _
    rw [List.drop_append_of_le_length (by rw [List.length_map]; exact Nat.le_refl _), List.drop_of_length_le (by rw [List.length_map]; exact Nat.le_refl _)]
    rfl
  intro D q
  refine (ed_slTo (T := T) (K := K) (lo := ks.length + 1) (ed_var (i := 0) (σ := [some v0, some v1, none, none, none]) rfl h03) (ed_is (ed_sub (ed_lenT (ed_var (i := 0) rfl h03)) ed_int) (by rw [hl5]; congr 1; omega)) (by omega) (by rw [hl5]; omega)) H3 (Gr.refl _) _ fun v5 H4 g4 hv5 => ?_
  rw [hdrop] at hv5
  cases hv5 with
  | @tup a5 xs5 _ ha5 hxs5 =>
  obtain ⟨y1, y2, rfl, hy1, hy2⟩ := dxA2 hxs5
  cases hy1
  refine ⟨a5, _, rfl, SqT.of ha5, rfl, _, _, rfl, _, _, rfl, rfl, ?_⟩
  have h04 := g4.dx h03
  have h14 := g4.dx h13
  have hT4 := g4.2 hT3
  have hkinds : ED T _ [some v0, some v1, some (.str mi'), some y2, none] H4 (.tuple (ks.map fun u => encB (bk u bd))) := ed_tupL (T := T) (K := K) (ed_lcA (α := Nm) (L := ks) (f1 := encN) (f2 := fun u => encB (bk u bd)) (g := gName 4) (vs := [4]) (te := tCall (spF T (rBack n)) [] E0 (tCons (tVar 4) (tCons (tVar 1) tNil)))
    (wi := iTup K (tSl (rSlA K) (tVar 0) (tPart (tC (.int 1))) (tPart (tOp (rI0 fun i j => .int (i - j)) (tCB (fun xs H Q => ∃ p ys, xs = [.ref p] ∧ (SqL K H p ys ∨ SqT K H p ys) ∧ Q (.int ys.length) H) (tCons (tVar 0) tNil)) (tC (.int 2))))))
    (ei_tup (ed_is (ed_slT (lo := 1) (hi := ks.length + 1) (ed_var (i := 0) rfl h04) ed_int (ed_is (ed_sub (ed_lenT (ed_var (i := 0) rfl h04)) ed_int) (by rw [hl5]; congr 1; omega)) (by decide) (by omega) (by rw [hl5]; omega)) (by
      congr 1
      show List.take (ks.length + 1 - 1) (ks.map encN ++ [.str mi', encN b]) = _
      rw [Nat.add_sub_cancel, List.take_append_of_le_length (by rw [List.length_map]; exact Nat.le_refl _)]
      exact List.take_of_length_le (by rw [List.length_map]; exact Nat.le_refl _))))
    (by have := Z.two; omega) (fun u _ => nl_encB _) (fun u hu x H6 g6 hx => ⟨_, fun Q h => h, wipe_set1, ed_call (dd := []) (g6.2 hT4) (eda_cons (ed_var (i := 4) rfl hx) (eda_cons (ed_var (i := 1) rfl (g6.dx h14)) eda_nil)) (fun _ => .nil) ⟨u, bd, rfl, (Z.hk u hu).1, (Z.hk u hu).2, rfl⟩⟩))
  have fin : ED T _ [some v0, some v1, some (.str mi'), some y2, none] H4 (.tuple ([.str wd] ++ (ks.map fun u => encB (bk u bd)) ++ [encB (bk b (mi' :: bd))])) := ed_catA (T := T) (K := K) (ed_catA (K := K) (a := [.str wd]) (ed_tup (eda_cons (ed_x (K := K) (i := 0) rfl h04 (atI_nat (j := 0) rfl)) eda_nil)) hkinds (by simp; have := Z.two; omega))
    (ed_tup (eda_cons (ed_call (R := rBack n) (r := encB (bk b (mi' :: bd))) (E := E0) (dd := []) (ds := [encN b, .list ((mi' :: bd).map .str)]) hT4 (eda_cons (ed_var (i := 3) rfl hy2) (eda_cons (ed_catL (a := [.str mi']) (b := bd.map .str) (ed_lst (eda_cons (ed_var (i := 2) (d := .str mi') rfl (.str _)) eda_nil)) (ed_var (i := 1) rfl h14) (by rw [hlm]; simp; omega)) eda_nil)) (fun _ => .nil) ⟨b, mi' :: bd, rfl, Z.hb.1, by rw [List.length_cons]; exact Z.hb.2, rfl⟩) eda_nil)) (by simp; have := Z.two; omega)
  exact fin H4 (Gr.refl _) _ fun v6 H6 g6 hv6 => q v6 H6 (g4.trans g6) hv6
theorem ok_back (F : Fun K "_law_back" "_law_back" sBack f fd) (CN : Cal K mg "_law_back" f fd ["named", "bound"]) (mi : mg "isinstance" = none) (ms : mg "str" = none) (ml : mg "len" = none) (mt : mg "tuple" = none) :
    ∀ n, FnOk P w K mg base CX0 (n + 1) f fd ["named", "bound"] (spF T (rBack n))
  | 0 => ⟨fun vs H Q E ⟨_, _, _, _, ⟨_, _, _, h, _⟩, _⟩ => absurd h (Nat.not_lt_zero _), fun A outer s H args us vs Q E _ _ _ _ ⟨_, _, _, _, ⟨_, _, _, h, _⟩, _⟩ => absurd h (Nat.not_lt_zero _)⟩
  | n + 1 => ok_back1 F CN (ok_back F CN mi ms ml mt n) mi ms ml mt
end
end K1
namespace K1
open PySem PySem.Spec PyProof.Rows L2
open TL (numL tl_num numL_inj numL_free)
/-! ### what the law asks of the model -/
theorem hd_fold : ∀ (as : List Tm) (h : Tm), hdT (as.foldl Tm.app h) = hdT h
  | [], _ => rfl
  | a :: as, h => (hd_fold as (.app h a)).trans rfl
theorem arg_fold : ∀ (as : List Tm) (h : Tm), argT (as.foldl Tm.app h) = argT h ++ as
  | [], h => by simp
  | a :: as, h => by rw [List.foldl_cons, arg_fold as (.app h a)]; show (argT h ++ [a]) ++ as = _; simp
theorem spl_mkB : ∀ (rows : List (Str × Tm)) (b : Tm), spl (mkB true rows b) rows.length = some (rows, b)
  | [], b => by cases b <;> simp [mkB, spl]
  | r :: rows, b => by
    show (spl (mkB true rows b) rows.length).map _ = _
    rw [spl_mkB rows b]
    rfl
theorem cnt_fold : ∀ (as : List Tm) (h : Tm), cnt (as.foldl Tm.app h) = cnt h + (as.map fun a => cnt a + 1).sum
  | [], h => by simp
  | a :: as, h => by rw [List.foldl_cons, cnt_fold as (.app h a)]; simp [cnt]; omega
theorem wk_self (t : Tm) : WK t ((kidsT t 0).map fun p => p.1) t := by
  cases t with
  | var n => exact .var n
  | leaf l => exact .leaf l
  | bind p x k b => exact .bind ..
  | app f x => exact .app ..
  | letE x k v b => exact .letE ..
/-! free variables -/
def isV (k : Nat) (p : Tm × Nat) : Bool := match p.1 with
  | .var n => decide (n = k + p.2)
  | _ => false
theorem eqv_tup2 (a b : PyData) (es : List PyData) : PyData.eqv (.tuple (a :: es)) (.tuple [b]) = (PyData.eqv a b && PyData.eqvAll es []) := by simp only [PyData.eqv, PyData.eqvAll]
theorem uvP_isV (k : Nat) (p : Tm × Nat) : uvP k p = isV k p := by
  obtain ⟨t, a⟩ := p
  unfold uvP isV
  cases t with
  | var n =>
    show PyData.eqv (.tuple [.str "var", .int n]) (.tuple [.str "var", .int ((k : Int) + a)]) = decide (n = k + a)
    simp only [PyData.eqv, PyData.eqvAll]
    rw [Bool.eq_iff_iff]
    simp
    omega
  | leaf l =>
    cases l with
    | sort l =>
      show PyData.eqv (.tuple [.str "sort", .int l]) (.tuple [.str "var", .int ((k : Int) + a)]) = false
      simp only [PyData.eqv, PyData.eqvAll]
      rw [show (("sort" : Str) == ("var" : Str)) = false from by decide]
      rfl
    | cst c =>
      show PyData.eqv (.tuple [.str "const", .str c]) (.tuple [.str "var", .int ((k : Int) + a)]) = false
      simp only [PyData.eqv, PyData.eqvAll]
      rw [show (("const" : Str) == ("var" : Str)) = false from by decide]
      rfl
    | rcr c l =>
      show PyData.eqv (.tuple [.str "rec", .str c, .int l]) (.tuple [.str "var", .int ((k : Int) + a)]) = false
      simp only [PyData.eqv, PyData.eqvAll]
      rw [show (("rec" : Str) == ("var" : Str)) = false from by decide]
      rfl
  | bind q x K b =>
    show PyData.eqv (.tuple [.str (bw q), .str x, enc K, enc b]) (.tuple [.str "var", .int ((k : Int) + a)]) = false
    simp only [PyData.eqv, PyData.eqvAll]
    rw [show (bw q == ("var" : Str)) = false from by cases q <;> decide]
    rfl
  | app f b =>
    show PyData.eqv (.tuple [.str "app", enc f, enc b]) (.tuple [.str "var", .int ((k : Int) + a)]) = false
    simp only [PyData.eqv, PyData.eqvAll]
    rw [show (("app" : Str) == ("var" : Str)) = false from by decide]
    rfl
  | letE x K v b =>
    show PyData.eqv (.tuple [.str "let", .str x, enc K, enc v, enc b]) (.tuple [.str "var", .int ((k : Int) + a)]) = false
    simp only [PyData.eqv, PyData.eqvAll]
    rw [show (("let" : Str) == ("var" : Str)) = false from by decide]
    rfl
/-- what is free: the variables among the parts -/
theorem fr_nd (t : Tm) : ∀ a x, x ∈ frT t a ↔ ∃ n b, (Tm.var n, b) ∈ nd t a ∧ b ≤ n ∧ n - b = x := by
  induction t with
  | var n =>
    intro a x
    show x ∈ (if a ≤ n then [n - a] else []) ↔ _
    constructor
    · intro h
      split at h
      · rename_i q
        exact ⟨n, a, by simp [nd], q, (List.mem_singleton.mp h).symm⟩
      · cases h
    · rintro ⟨m, b, h, h1, h2⟩
      simp [nd] at h
      obtain ⟨rfl, rfl⟩ := h
      rw [if_pos h1, h2]
      exact List.mem_singleton.mpr rfl
  | leaf l => intro a x; simp [frT, nd]
  | bind p y k b i1 i2 =>
    intro a x
    simp only [frT, nd, List.mem_append, List.mem_cons, i1, i2]
    constructor
    · rintro (⟨n, c, h, h1, h2⟩ | ⟨n, c, h, h1, h2⟩)
      · exact ⟨n, c, .inr (.inl h), h1, h2⟩
      · exact ⟨n, c, .inr (.inr h), h1, h2⟩
    · rintro ⟨n, c, h, h1, h2⟩
      rcases h with h | h | h
      · cases h
      · exact .inl ⟨n, c, h, h1, h2⟩
      · exact .inr ⟨n, c, h, h1, h2⟩
  | app f b i1 i2 =>
    intro a x
    simp only [frT, nd, List.mem_append, List.mem_cons, i1, i2]
    constructor
    · rintro (⟨n, c, h, h1, h2⟩ | ⟨n, c, h, h1, h2⟩)
      · exact ⟨n, c, .inr (.inl h), h1, h2⟩
      · exact ⟨n, c, .inr (.inr h), h1, h2⟩
    · rintro ⟨n, c, h, h1, h2⟩
      rcases h with h | h | h
      · cases h
      · exact .inl ⟨n, c, h, h1, h2⟩
      · exact .inr ⟨n, c, h, h1, h2⟩
  | letE y k v b i1 i2 i3 =>
    intro a x
    simp only [frT, nd, List.mem_append, List.mem_cons, i1, i2, i3]
    constructor
    · rintro (⟨n, c, h, h1, h2⟩ | ⟨n, c, h, h1, h2⟩ | ⟨n, c, h, h1, h2⟩)
      · exact ⟨n, c, .inr (.inl h), h1, h2⟩
      · exact ⟨n, c, .inr (.inr (.inl h)), h1, h2⟩
      · exact ⟨n, c, .inr (.inr (.inr h)), h1, h2⟩
    · rintro ⟨n, c, h, h1, h2⟩
      rcases h with h | h | h | h
      · cases h
      · exact .inl ⟨n, c, h, h1, h2⟩
      · exact .inr (.inl ⟨n, c, h, h1, h2⟩)
      · exact .inr (.inr ⟨n, c, h, h1, h2⟩)
theorem uses_fr (t : Tm) (k : Nat) : (nd t 0).any (uvP k) = decide (k ∈ frT t 0) := by
  rw [Bool.eq_iff_iff, List.any_eq_true, decide_eq_true_eq, fr_nd]
  constructor
  · rintro ⟨⟨u, b⟩, h, h2⟩
    rw [uvP_isV] at h2
    cases u with
    | var n => have : n = k + b := of_decide_eq_true h2; exact ⟨n, b, h, by omega, by omega⟩
    | _ => cases h2
  · rintro ⟨n, b, h, h1, h2⟩
    exact ⟨(.var n, b), h, by rw [uvP_isV]; exact decide_eq_true (by show n = k + b; omega)⟩
theorem lw_fold : ∀ (l : List (Tm × Nat)) (acc : Int), 0 ≤ acc → acc ≤ l.foldl lwS acc ∧ (∀ n b, (Tm.var n, b) ∈ l → b ≤ n → ((n - b : Nat) : Int) + 1 ≤ l.foldl lwS acc) ∧ (l.foldl lwS acc = acc ∨ ∃ n b, (Tm.var n, b) ∈ l ∧ b ≤ n ∧ l.foldl lwS acc = ((n - b : Nat) : Int) + 1)
  | [], acc, _ => ⟨Int.le_refl _, fun n b h => (by cases h), .inl rfl⟩
  | (u, c) :: l, acc, h0 => by
    rw [List.foldl_cons]
    have hs : acc ≤ lwS acc (u, c) ∧ (∀ n, u = .var n → c ≤ n → ((n - c : Nat) : Int) + 1 ≤ lwS acc (u, c)) ∧ (lwS acc (u, c) = acc ∨ ∃ n, u = .var n ∧ c ≤ n ∧ lwS acc (u, c) = ((n - c : Nat) : Int) + 1) := by
      cases u with
      | var n =>
        show acc ≤ (if (n : Int) + 1 - c - 0 > acc then (n : Int) + 1 - c - 0 else acc) ∧ (∀ m, Tm.var n = .var m → c ≤ m → ((m - c : Nat) : Int) + 1 ≤ (if (n : Int) + 1 - c - 0 > acc then (n : Int) + 1 - c - 0 else acc)) ∧
          ((if (n : Int) + 1 - c - 0 > acc then (n : Int) + 1 - c - 0 else acc) = acc ∨ ∃ m, Tm.var n = .var m ∧ c ≤ m ∧ (if (n : Int) + 1 - c - 0 > acc then (n : Int) + 1 - c - 0 else acc) = ((m - c : Nat) : Int) + 1)
        split
        · rename_i q
          exact ⟨by omega, fun m e hc => (by cases e; omega), .inr ⟨n, rfl, by omega, by omega⟩⟩
        · rename_i q
          exact ⟨by omega, fun m e hc => (by cases e; omega), .inl rfl⟩
      | _ => exact ⟨Int.le_refl _, fun n e => (by cases e), .inl rfl⟩
    obtain ⟨a1, a2, a3⟩ := hs
    obtain ⟨b1, b2, b3⟩ := lw_fold l (lwS acc (u, c)) (by omega)
    refine ⟨by omega, fun n b h hb => ?_, ?_⟩
    · rcases List.mem_cons.mp h with e | h
      · cases e
        have := a2 n rfl hb
        omega
      · exact b2 n b h hb
    · rcases b3 with e | ⟨n, b, h, hb, e⟩
      · rcases a3 with e2 | ⟨n, e2, hc, e3⟩
        · exact .inl (e.trans e2)
        · subst e2
          exact .inr ⟨n, c, List.mem_cons_self, hc, e.trans e3⟩
      · exact .inr ⟨n, b, List.mem_cons_of_mem _ h, hb, e⟩
def mxL (t : Tm) : List Int := 0 :: (frT t 0).map fun n => ((n : Nat) : Int) + 1
theorem low_max (t : Tm) : ∀ x, x ∈ mxL t → (∀ y ∈ mxL t, y ≤ x) → x = lwT t := by
  intro x hx hy
  obtain ⟨h1, h2, h3⟩ := lw_fold (nd t 0) 0 (Int.le_refl _)
  have hle : x ≤ lwT t := by
    rcases List.mem_cons.mp hx with e | hx
    · rw [e]; exact h1
    · obtain ⟨n, hn, rfl⟩ := List.mem_map.mp hx
      obtain ⟨m, b, hm, hb, rfl⟩ := (fr_nd t 0 n).mp hn
      exact h2 m b hm hb
  have hge : lwT t ≤ x := by
    rcases h3 with e | ⟨n, b, hm, hb, e⟩
    · have := hy 0 List.mem_cons_self
      show (nd t 0).foldl lwS 0 ≤ x
      omega
    · have := hy (((n - b : Nat) : Int) + 1) (List.mem_cons_of_mem _ (List.mem_map.mpr ⟨n - b, (fr_nd t 0 _).mpr ⟨n, b, hm, hb, rfl⟩, rfl⟩))
      show (nd t 0).foldl lwS 0 ≤ x
      omega
  omega
theorem low_max_eq (t : Tm) : ∀ x, x ∈ mxL t → (∀ y ∈ mxL t, y ≤ x) → x = lwT t := low_max t
theorem bnd_nd {B : Nat} (t : Tm) : ∀ a, bnd B t a → ∀ n b, (Tm.var n, b) ∈ nd t a → n < B + b := by
  induction t with
  | var m => intro a h n b hm; simp [nd] at hm; obtain ⟨rfl, rfl⟩ := hm; exact h
  | leaf l => intro a h n b hm; simp [nd] at hm
  | bind p y k v i1 i2 =>
    intro a h n b hm
    simp only [nd, List.mem_append, List.mem_cons] at hm
    rcases hm with e | e | e
    · cases e
    · exact i1 a h.1 n b e
    · exact i2 _ h.2 n b e
  | app f v i1 i2 =>
    intro a h n b hm
    simp only [nd, List.mem_append, List.mem_cons] at hm
    rcases hm with e | e | e
    · cases e
    · exact i1 a h.1 n b e
    · exact i2 _ h.2 n b e
  | letE y k v w i1 i2 i3 =>
    intro a h n b hm
    simp only [nd, List.mem_append, List.mem_cons] at hm
    rcases hm with e | e | e | e
    · cases e
    · exact i1 a h.1 n b e
    · exact i2 _ h.2.1 n b e
    · exact i3 _ h.2.2 n b e
theorem low_bnd {B : Nat} {t : Tm} (h : bnd B t 0) : lwT t ≤ B := by
  obtain ⟨h1, h2, h3⟩ := lw_fold (nd t 0) 0 (Int.le_refl _)
  show (nd t 0).foldl lwS 0 ≤ B
  rcases h3 with e | ⟨n, b, hm, hb, e⟩
  · omega
  · have := bnd_nd t 0 h n b hm
    omega
/-! names -/
theorem nm_nodup : ∀ (l : List (Tm × Nat)) (acc : List Str), acc.Nodup → (l.foldl nmS acc).Nodup
  | [], acc, h => h
  | p :: l, acc, h => by
    rw [List.foldl_cons]
    refine nm_nodup l _ ?_
    have key : ∀ c : Str, (if c ∈ acc then acc else acc ++ [c]).Nodup := fun c => by
      split
      · exact h
      · rename_i q
        exact List.nodup_append.mpr ⟨h, by simp, fun x hx y hy => by rw [List.mem_singleton.mp hy]; exact fun e => q (e ▸ hx)⟩
    obtain ⟨u, b⟩ := p
    cases u with
    | leaf l =>
      cases l with
      | sort l => exact h
      | cst c => exact key c
      | rcr c l => exact key c
    | _ => exact h
theorem nmT_nodup (t : Tm) : (nmT t).Nodup := nm_nodup _ _ List.nodup_nil
theorem nmT_len (t : Tm) : (nmT t).length ≤ cnt t := by
  have := nm_len (nd t 0) []
  rw [nd_len, List.length_nil, Nat.zero_add] at this
  exact this
/-! a term put in a term is another -/
theorem sm_app_self {t : Tm} : sm t (.app t t) = false := by
  cases h : sm t (.app t t) with
  | false => rfl
  | true =>
    have := sm_cnt h
    simp only [cnt] at this
    have := cnt_pos t
    omega
/-! texts that Python has -/
theorem lay_append {a b : Str} (ha : (PyData.str a).canLay0 = true) (hb : (PyData.str b).canLay0 = true) : (PyData.str (a ++ b)).canLay0 = true := by
  simp only [PyData.canLay0, PyData.strOk] at ha hb ⊢
  rw [app_cps, Array.all_append, ha, hb]
  rfl
theorem lay_num (n : Nat) : (PyData.str (num n)).canLay0 = true := by
  simp only [PyData.canLay0, PyData.strOk]
  rw [← Array.all_toList, num_cps, List.all_eq_true]
  intro c hc
  have h := TL.numL_digits n c hc
  simp
  omega
theorem lay_bn {n : Nat} {f : Str} (h : (PyData.str f).canLay0 = true) : (PyData.str (bn n f)).canLay0 = true := lay_append (lay_append (by decide +kernel) (lay_num n)) h
theorem lay_fn {n : Nat} : (PyData.str (fn n)).canLay0 = true := lay_append (by decide +kernel) (lay_num n)
theorem lay_nmv {n : Nat} {ns : List Str} (h : ∀ s ∈ ns, (PyData.str s).canLay0 = true) : (PyData.str (nmv n ns)).canLay0 = true := by
  unfold nmv
  split
  · rename_i s e
    exact h _ (List.mem_of_getElem? e)
  · exact lay_fn
theorem layT {ds : List PyData} (h : ∀ d ∈ ds, d.canLay0 = true) : (PyData.tuple ds).canLay0 = true := by
  simp only [PyData.canLay0]
  exact layAll_of h
theorem lay_nam (t : Tm) : ∀ (ns : List Str) (fr : Str), TmOk t → (∀ s ∈ ns, (PyData.str s).canLay0 = true) → (PyData.str fr).canLay0 = true → (encN (nam t ns fr)).canLay0 = true := by
  induction t with
  | var n => intro ns fr _ h _; exact lay_nmv h
  | leaf l => intro ns fr h _ _; exact lay_leaf h
  | app f a i1 i2 =>
    intro ns fr h h1 h2
    refine layT fun d hd => ?_
    simp only [List.mem_cons, List.not_mem_nil, or_false] at hd
    rcases hd with rfl | rfl | rfl
    · exact lay_app
    · exact i1 ns fr h.1 h1 h2
    · exact i2 ns fr h.2 h1 h2
  | bind p x k b i1 i2 =>
    intro ns fr h h1 h2
    refine layT fun d hd => ?_
    simp only [List.mem_cons, List.not_mem_nil, or_false] at hd
    have h1' : ∀ s ∈ bn ns.length fr :: ns, (PyData.str s).canLay0 = true := fun s hs => by
      rcases List.mem_cons.mp hs with rfl | hs
      · exact lay_bn h2
      · exact h1 s hs
    rcases hd with rfl | rfl | rfl | rfl
    · exact lay_bw p
    · exact i1 ns fr h.2.1 h1 h2
    · exact lay_bn h2
    · exact i2 _ fr h.2.2 h1' h2
  | letE x k v b i1 i2 i3 =>
    intro ns fr h h1 h2
    refine layT fun d hd => ?_
    simp only [List.mem_cons, List.not_mem_nil, or_false] at hd
    have h1' : ∀ s ∈ bn ns.length fr :: ns, (PyData.str s).canLay0 = true := fun s hs => by
      rcases List.mem_cons.mp hs with rfl | hs
      · exact lay_bn h2
      · exact h1 s hs
    rcases hd with rfl | rfl | rfl | rfl | rfl
    · exact lay_let
    · exact i1 ns fr h.2.1 h1 h2
    · exact i2 ns fr h.2.2.1 h1 h2
    · exact lay_bn h2
    · exact i3 _ fr h.2.2.2 h1' h2
theorem lay_cl (t : Tm) (ns : List Str) (hns : ∀ s ∈ ns, (PyData.str s).canLay0 = true) : ∀ k, TmOk t → (encB (cl t ns k)).canLay0 = true := by
  induction t with
  | var n =>
    intro k _
    show (encB (if n < k then Bk.var n else .free (nmv (n - k) ns))).canLay0 = true
    split
    · refine layT fun d hd => ?_
      simp only [List.mem_cons, List.not_mem_nil, or_false] at hd
      rcases hd with rfl | rfl
      · exact lay_var
      · simp only [PyData.canLay0]
    · refine layT fun d hd => ?_
      simp only [List.mem_cons, List.not_mem_nil, or_false] at hd
      rcases hd with rfl | rfl
      · decide +kernel
      · exact lay_nmv hns
  | leaf l => intro k h; exact lay_leaf h
  | app f a i1 i2 =>
    intro k h
    refine layT fun d hd => ?_
    simp only [List.mem_cons, List.not_mem_nil, or_false] at hd
    rcases hd with rfl | rfl | rfl
    · exact lay_app
    · exact i1 k h.1
    · exact i2 k h.2
  | bind p x K b i1 i2 =>
    intro k h
    refine layT fun d hd => ?_
    simp only [List.mem_cons, List.not_mem_nil, or_false] at hd
    rcases hd with rfl | rfl | rfl
    · exact lay_bw p
    · exact i1 k h.2.1
    · exact i2 (k + 1) h.2.2
  | letE x K v b i1 i2 i3 =>
    intro k h
    refine layT fun d hd => ?_
    simp only [List.mem_cons, List.not_mem_nil, or_false] at hd
    rcases hd with rfl | rfl | rfl | rfl
    · exact lay_let
    · exact i1 k h.2.1
    · exact i2 k h.2.2.1
    · exact i3 (k + 1) h.2.2.2
theorem depT {ds : List PyData} {n : Nat} (h : ∀ d ∈ ds, d.depth ≤ n) : (PyData.tuple ds).depth ≤ n + 1 := by
  have e : (PyData.tuple ds).depth = PyData.depthAll ds + 1 := by simp only [PyData.depth]
  have := depthAll_le h
  omega
theorem dep_leaf (l : Lf) : (encL l).depth ≤ 1 := by cases l <;> simp [encL, PyData.depth, PyData.depthAll]
theorem dep_encN (m : Nm) : (encN m).depth ≤ dpN m := by
  induction m with
  | fre s => exact Nat.zero_le _
  | leaf l => exact dep_leaf l
  | app f a i1 i2 =>
    refine depT fun d hd => ?_
    simp only [List.mem_cons, List.not_mem_nil, or_false] at hd
    rcases hd with rfl | rfl | rfl <;> first | exact Nat.zero_le _ | omega
  | bind p k m b i1 i2 =>
    refine depT fun d hd => ?_
    simp only [List.mem_cons, List.not_mem_nil, or_false] at hd
    rcases hd with rfl | rfl | rfl | rfl <;> first | exact Nat.zero_le _ | omega
  | letE k v m b i1 i2 i3 =>
    refine depT fun d hd => ?_
    simp only [List.mem_cons, List.not_mem_nil, or_false] at hd
    rcases hd with rfl | rfl | rfl | rfl | rfl <;> first | exact Nat.zero_le _ | omega
def dpB : Bk → Nat
  | .var _ => 1
  | .free _ => 1
  | .leaf _ => 1
  | .app f a => max (dpB f) (dpB a) + 1
  | .bind _ k b => max (dpB k) (dpB b) + 1
  | .letE k v b => max (dpB k) (max (dpB v) (dpB b)) + 1
theorem dep_encB (m : Bk) : (encB m).depth ≤ dpB m := by
  induction m with
  | var i => simp [encB, PyData.depth, PyData.depthAll, dpB]
  | free s => simp [encB, PyData.depth, PyData.depthAll, dpB]
  | leaf l => exact dep_leaf l
  | app f a i1 i2 =>
    refine depT fun d hd => ?_
    simp only [List.mem_cons, List.not_mem_nil, or_false] at hd
    rcases hd with rfl | rfl | rfl <;> first | exact Nat.zero_le _ | omega
  | bind p k b i1 i2 =>
    refine depT fun d hd => ?_
    simp only [List.mem_cons, List.not_mem_nil, or_false] at hd
    rcases hd with rfl | rfl | rfl <;> first | exact Nat.zero_le _ | omega
  | letE k v b i1 i2 i3 =>
    refine depT fun d hd => ?_
    simp only [List.mem_cons, List.not_mem_nil, or_false] at hd
    rcases hd with rfl | rfl | rfl | rfl <;> first | exact Nat.zero_le _ | omega
theorem dpB_cl (t : Tm) (ns : List Str) : ∀ k, dpB (cl t ns k) = dep t := by
  induction t with
  | var n => intro k; show dpB (if n < k then Bk.var n else .free (nmv (n - k) ns)) = 1; split <;> rfl
  | leaf l => intro k; rfl
  | app f a i1 i2 => intro k; show max (dpB (cl f ns k)) (dpB (cl a ns k)) + 1 = _; rw [i1, i2]; rfl
  | bind p x K b i1 i2 => intro k; show max (dpB (cl K ns k)) (dpB (cl b ns (k + 1))) + 1 = _; rw [i1, i2]; rfl
  | letE x K v b i1 i2 i3 => intro k; show max (dpB (cl K ns k)) (max (dpB (cl v ns k)) (dpB (cl b ns (k + 1)))) + 1 = _; rw [i1, i2, i3]; rfl
theorem shaped_cl {t : Tm} {ns : List Str} (hns : ∀ s ∈ ns, (PyData.str s).canLay0 = true) (h : TmOk t) (hd : dep t ≤ 64) : SeqAt.shaped (encB (cl t ns 0)) = true :=
  shaped_of (lay_cl t ns hns 0 h) (by have := dep_encB (cl t ns 0); rw [dpB_cl] at this; omega)
theorem plain_leaf (l : Lf) : plain (encL l) = true := by cases l <;> rfl
theorem plain_encN (m : Nm) : plain (encN m) = true := by
  induction m with
  | fre s => rfl
  | leaf l => exact plain_leaf l
  | app f a i1 i2 => show (true && (true && (plain (encN f) && (plain (encN a) && true)))) = true; rw [i1, i2]; rfl
  | bind p k m b i1 i2 => show (true && (true && (plain (encN k) && (true && (plain (encN b) && true))))) = true; rw [i1, i2]; rfl
  | letE k v m b i1 i2 i3 => show (true && (true && (plain (encN k) && (plain (encN v) && (true && (plain (encN b) && true)))))) = true; rw [i1, i2, i3]; rfl
/-! putting a named term in the place of a name -/
def clN (z : Str) : Nm → Prop
  | .fre _ => True
  | .leaf l => clL z l
  | .app f a => clN z f ∧ clN z a
  | .bind _ k m b => clN z k ∧ m ≠ z ∧ clN z b
  | .letE k v m b => clN z k ∧ clN z v ∧ m ≠ z ∧ clN z b
theorem put_str_ne {z s : Str} {v : PyData} (h : s ≠ z) : putD z v (.str s) = .str s := if_neg h
theorem put_nm (z : Str) (hz : ∀ s ∈ (["sort", "const", "rec", "app", "pi", "lam", "let"] : List Str), s ≠ z) (val : Nm) (m : Nm) : clN z m → putD z (encN val) (encN m) = encN (pt z val m) := by
  induction m with
  | fre s =>
    intro _
    show (if s = z then encN val else .str s) = encN (if s = z then val else .fre s)
    split <;> rfl
  | leaf l =>
    intro h
    cases l with
    | sort l =>
      show PyData.tuple [putD z _ (.str "sort"), putD z _ (.int l)] = _
      rw [put_str_ne (hz _ (by simp))]
      rfl
    | cst c =>
      show PyData.tuple [putD z _ (.str "const"), putD z _ (.str c)] = _
      rw [put_str_ne (hz _ (by simp)), put_str_ne h]
      rfl
    | rcr c l =>
      show PyData.tuple [putD z _ (.str "rec"), putD z _ (.str c), putD z _ (.int l)] = _
      rw [put_str_ne (hz _ (by simp)), put_str_ne h]
      rfl
  | app f a i1 i2 =>
    intro h
    show PyData.tuple [putD z _ (.str "app"), putD z _ (encN f), putD z _ (encN a)] = _
    rw [put_str_ne (hz _ (by simp)), i1 h.1, i2 h.2]
    rfl
  | bind p k m b i1 i2 =>
    intro h
    show PyData.tuple [putD z _ (.str (bw p)), putD z _ (encN k), putD z _ (.str m), putD z _ (encN b)] = _
    rw [put_str_ne (hz _ (by cases p <;> simp [bw])), i1 h.1, put_str_ne h.2.1, i2 h.2.2]
    rfl
  | letE k v m b i1 i2 i3 =>
    intro h
    show PyData.tuple [putD z _ (.str "let"), putD z _ (encN k), putD z _ (encN v), putD z _ (.str m), putD z _ (encN b)] = _
    rw [put_str_ne (hz _ (by simp)), i1 h.1, i2 h.2.1, put_str_ne h.2.2.1, i3 h.2.2.2]
    rfl
theorem cl_nam {z : Str} (hz : ∀ n f, z ≠ bn n f) (t : Tm) : ∀ ns fr, nzT z t → clN z (nam t ns fr) := by
  induction t with
  | var n => intro ns fr _; trivial
  | leaf l => intro ns fr h; exact h
  | app f a i1 i2 => intro ns fr h; exact ⟨i1 ns fr h.1, i2 ns fr h.2⟩
  | bind p x k b i1 i2 => intro ns fr h; exact ⟨i1 ns fr h.1, fun e => hz _ _ e.symm, i2 _ fr h.2⟩
  | letE x k v b i1 i2 i3 => intro ns fr h; exact ⟨i1 ns fr h.1, i2 ns fr h.2.1, fun e => hz _ _ e.symm, i3 _ fr h.2.2⟩
theorem bn_hd (n : Nat) (f : Str) : (bn n f).cps.toList.head? = some 98 := by rw [bn_list]; rfl
theorem ne_bn {z : Str} (h : z.cps.toList.head? ≠ some 98) (n : Nat) (f : Str) : z ≠ bn n f := fun e => h (by rw [e]; exact bn_hd n f)
end K1
namespace K1
open PySem PySem.Spec PyProof.Rows L2
/-! ### steps of a def's body -/
section
variable {γ : Type} {X : Cx}
def StepOk (γ : Type) (X : Cx) (st : Stmt) (A B : γ → L2.St → Hp → Prop) : Prop := ∃ t : TS, PS X st t ∧ ∀ (c : γ) (D : Ends) (σ : L2.St) (H : Hp), A c σ H → (∀ σ' H', B c σ' H' → D.nx σ' H') → t D σ H
def StepsOk (γ : Type) (X : Cx) (sts : List Stmt) (A B : γ → L2.St → Hp → Prop) : Prop := ∃ t : TS, PSs X sts t ∧ ∀ (c : γ) (D : Ends) (σ : L2.St) (H : Hp), A c σ H → (∀ σ' H', B c σ' H' → D.nx σ' H') → t D σ H
theorem steps_nil {A B : γ → L2.St → Hp → Prop} (h : ∀ c σ H, A c σ H → B c σ H) : StepsOk γ X [] A B := ⟨_, pss_nil, fun c D σ H a q => q σ H (h c σ H a)⟩
theorem steps_cons {st : Stmt} {rest : List Stmt} {A B C : γ → L2.St → Hp → Prop} (h1 : StepOk γ X st A B) (h2 : StepsOk γ X rest B C) : StepsOk γ X (st :: rest) A C := by
  obtain ⟨t, p1, q1⟩ := h1
  obtain ⟨u, p2, q2⟩ := h2
  exact ⟨_, pss_cons p1 p2, fun c D σ H a q => q1 c _ σ H a fun σ' H' b => q2 c D σ' H' b q⟩
end
section
variable {γ : Type} {X : Cx} {T : Tbl}
/-- if c: return .., where c is false -/
theorem step_if {c : Expr} {body : List Stmt} {pos : Pos} {tc : TT} {tb : TS} {A : γ → L2.St → Hp → Prop} (hc : PT X c tc) (hb : PSs X body tb) (h : ∀ c σ H, A c σ H → ET T tc σ H false) (m : ∀ c σ H H', A c σ H → Gr T H H' → A c σ H') : StepOk γ X (.If c body [] pos) A A :=
  ⟨_, ps_if hc hb pss_nil, fun c D σ H a q => h c σ H a H (Gr.refl H) _ fun H1 g => by
    rw [if_neg Bool.false_ne_true]
    exact q σ H1 (m c σ H H1 a g)⟩
theorem step_asg {tg e : Expr} {pos : Pos} {te : TE} {i : Nat} {A B : γ → L2.St → Hp → Prop} (hp : PS X (.Assign [tg] e pos) (tAsg te (gName i))) (h : ∀ c σ H, A c σ H → ∃ d, ED T te σ H d ∧ ∀ v H', Gr T H H' → Dx H' v d → B c (σ.set i (some v)) H') : StepOk γ X (.Assign [tg] e pos) A B :=
  ⟨_, hp, fun c D σ H a q => by
    obtain ⟨d, h1, h2⟩ := h c σ H a
    exact h1 H (Gr.refl H) _ fun v H1 g hv => q _ _ (h2 v H1 g hv)⟩
theorem step_mu {tg e : Expr} {pos : Pos} {te : TE} {i : Nat} {A B : γ → L2.St → Hp → Prop} (hp : PS X (.Assign [tg] e pos) (tAsg te (gName i))) (h : ∀ c σ H, A c σ H → ∃ l Res, MD T l te σ H Res ∧ ∀ v H' d, Mu T l H H' → Res d → Dx H' v d → B c (σ.set i (some v)) H') : StepOk γ X (.Assign [tg] e pos) A B :=
  ⟨_, hp, fun c D σ H a q => by
    obtain ⟨l, Res, h1, h2⟩ := h c σ H a
    exact h1 H Mu.refl _ fun v H1 d m r hv => q _ _ (h2 v H1 d m r hv)⟩
end
/-! what a slot holds -/
def At (σ : L2.St) (H : Hp) (i : Nat) (d : PyData) : Prop := ∃ v, σ[i]? = some (some v) ∧ Dx H v d
section
variable {T : Tbl} {K : PySem.W.Frag} {σ : L2.St} {H H' : Hp} {i j : Nat} {d e : PyData} {te ta tb : TE} {t : TT}
theorem At.gr (g : Gr T H H') (h : At σ H i d) : At σ H' i d := by obtain ⟨v, h1, h2⟩ := h; exact ⟨v, h1, g.dx h2⟩
theorem At.mu {l : Addr} (m : Mu T l H H') (hd : IsDice H l) (n : nl d = true) (h : At σ H i d) : At σ H' i d := by obtain ⟨v, h1, h2⟩ := h; exact ⟨v, h1, m.dx hd n h2⟩
theorem At.ne {x : V} (n : j ≠ i) (h : At σ H i d) : At (σ.set j (some x)) H i d := by obtain ⟨v, h1, h2⟩ := h; exact ⟨v, by rw [List.getElem?_set_ne n]; exact h1, h2⟩
theorem At.new {x : V} (hl : i < σ.length) (h : Dx H x d) : At (σ.set i (some x)) H i d := ⟨x, by rw [List.getElem?_set_self hl], h⟩
theorem ed_at (h : At σ H i d) : ED T (tVar i) σ H d := by obtain ⟨v, h1, h2⟩ := h; exact ed_var h1 h2
/-- in a comprehension's block, after its own slot is set -/
theorem At.blk {x : V} (n : j ≠ i) (h : At σ H i d) : At ((wipe σ [j]).set j (some x)) H i d := by
  obtain ⟨v, h1, h2⟩ := h
  refine ⟨v, ?_, h2⟩
  show ((σ.set j none).set j (some x))[i]? = _
  rw [List.getElem?_set_ne n, List.getElem?_set_ne n]
  exact h1
theorem ed_own {x : V} (hl : j < σ.length) (h : Dx H x d) : ED T (tVar j) ((wipe σ [j]).set j (some x)) H d := ed_var (by
  show ((σ.set j none).set j (some x))[j]? = _
  rw [List.getElem?_set_self (by rw [List.length_set]; exact hl)]) h
/-! more == -/
theorem ed_neI {a b : Int} (h : ED T ta σ H (.int a)) (hb : ED T tb σ H (.int b)) : ED T (tOp rNe ta tb) σ H (.bool (!decide (a = b))) := fun H1 g Q q =>
  h H1 g _ fun v H2 g2 hv => hb H2 (g.trans g2) _ fun w H3 g3 hw => by
    cases hv; cases hw
    refine ⟨rfl, ?_⟩
    rw [show decide (V.int a = V.int b) = decide (a = b) from dec_iff ⟨fun z => V.int.inj z, fun z => congrArg _ z⟩]
    exact q _ H3 (g2.trans g3) (.bl _)
theorem ed_neB {a b : Bool} (h : ED T ta σ H (.bool a)) (hb : ED T tb σ H (.bool b)) : ED T (tOp rNe ta tb) σ H (.bool (!decide (a = b))) := fun H1 g Q q =>
  h H1 g _ fun v H2 g2 hv => hb H2 (g.trans g2) _ fun w H3 g3 hw => by
    cases hv; cases hw
    refine ⟨rfl, ?_⟩
    rw [show decide (V.bl a = V.bl b) = decide (a = b) from dec_iff ⟨fun z => V.bl.inj z, fun z => congrArg _ z⟩]
    exact q _ H3 (g2.trans g3) (.bl _)
theorem ed_neSame (h : ED T ta σ H d) (hb : ED T tb σ H d) (sd : SeqAt.shaped d = true) : ED T (tOp (rNeD K) ta tb) σ H (.bool false) := ed_is (ed_neD h hb sd sd) (by
  have : d.canLay0 = true := (Bool.and_eq_true_iff.mp sd).1
  rw [SeqAt.eqv_refl d this]
  rfl)
theorem et_ne (h : ED T ta σ H d) (hb : ED T tb σ H d) (sd : SeqAt.shaped d = true) : ET T (tTest (tOp (rNeD K) ta tb)) σ H false := et_test (ed_neSame h hb sd)
end
/-! == of any depth, one side a text -/
def rEqT (K : PySem.W.Frag) : R2 := fun x y H Q => ∃ d e, Dp K H x d ∧ Dp K H y e ∧ d.canLay0 = true ∧ e.canLay0 = true ∧ min d.depth e.depth ≤ 64 ∧ Q (.bl (PyData.eqv d e)) H
def rNeT (K : PySem.W.Frag) : R2 := fun x y H Q => ∃ d e, Dp K H x d ∧ Dp K H y e ∧ d.canLay0 = true ∧ e.canLay0 = true ∧ min d.depth e.depth ≤ 64 ∧ Q (.bl (!PyData.eqv d e)) H
section
variable {X : Cx}
theorem op_eqT (hu : X.A.units + 64 < cLine) : OpR X (compareOp .Eq) (rEqT X.K) := by
  intro pins s σ H x y v u Q I rx ry h
  obtain ⟨d, e, hd, he, sd, se, hm, q⟩ := h
  obtain ⟨as, r1⟩ := Dp.reads I d x v hd rx
  obtain ⟨bs, r2⟩ := Dp.reads I e y u he ry
  exact SeqAt.compareEq_reads r1 r2 sd se (by omega) ⟨.bl _, H, I, rfl, q⟩
theorem op_neT (hu : X.A.units + 64 < cLine) : OpR X (compareOp .NotEq) (rNeT X.K) := by
  intro pins s σ H x y v u Q I rx ry h
  obtain ⟨d, e, hd, he, sd, se, hm, q⟩ := h
  obtain ⟨as, r1⟩ := Dp.reads I d x v hd rx
  obtain ⟨bs, r2⟩ := Dp.reads I e y u he ry
  exact SeqAt.compareNe_reads r1 r2 sd se (by omega) ⟨.bl _, H, I, rfl, q⟩
end
section
variable {T : Tbl} {K : PySem.W.Frag} {σ : L2.St} {H H' : Hp} {i j : Nat} {d e : PyData} {te ta tb : TE} {t : TT}
theorem ed_eqT (h : ED T ta σ H d) (hb : ED T tb σ H e) (sd : d.canLay0 = true) (se : e.canLay0 = true) (hm : min d.depth e.depth ≤ 64) : ED T (tOp (rEqT K) ta tb) σ H (.bool (PyData.eqv d e)) := fun H1 g Q q =>
  h H1 g _ fun v H2 g2 hv => hb H2 (g.trans g2) _ fun w H3 g3 hw => ⟨d, e, Dx.to d v (g3.dx hv), Dx.to e w hw, sd, se, hm, q _ H3 (g2.trans g3) (.bl _)⟩
theorem ed_neT (h : ED T ta σ H d) (hb : ED T tb σ H e) (sd : d.canLay0 = true) (se : e.canLay0 = true) (hm : min d.depth e.depth ≤ 64) : ED T (tOp (rNeT K) ta tb) σ H (.bool (!PyData.eqv d e)) := fun H1 g Q q =>
  h H1 g _ fun v H2 g2 hv => hb H2 (g.trans g2) _ fun w H3 g3 hw => ⟨d, e, Dx.to d v (g3.dx hv), Dx.to e w hw, sd, se, hm, q _ H3 (g2.trans g3) (.bl _)⟩
/-- told(lambda: f(..)), f's promise spChk -/
def teW : Str := "TermError"
theorem ed_told {C : Addr} {t : XK → TE} {r : PyData} (hT : Tb T H) (h : ∀ H1, Gr T H H1 → ∀ Q : VK, (∀ v H2, Gr T H1 H2 → Dx H2 v r → Q v H2) → LamX.TTold K C teW (fun E H' Q' => t E σ H' Q') H1 Q) : ED T (LamX.tLam T.list (LamX.TTold K C teW) t) σ H r := fun H1 g Q q =>
  ⟨g.2 hT, fun H2 e tb => h H2 (g.trans ⟨e, fun _ => tb⟩) Q fun v H3 g3 hv => q v H3 (Gr.trans ⟨e, fun _ => tb⟩ g3) hv⟩
theorem ed_chk {C : Addr} {i : Nat} {d : PyData} (hx : PySem.W.exmOne K (.ref C) (.ref C) = some true) (hT : Tb T H) (ha : At σ H i d) (hn : HN d) :
    ED T (LamX.tLam T.list (LamX.TTold K C teW) fun E => tCall (spChk T C) [] E (tCons (tVar i) tNil)) σ H (if chkOk d = true then d else .str teW) := ed_told hT fun H1 g Q q => by
  obtain ⟨v, h1, h2⟩ := ha
  refine ⟨v, h1, d, v, rfl, g.dx h2, hn, g.2 hT, fun hc v' H' g' hv' => q v' H' g' (by rw [if_pos hc]; exact hv'), fun hc H' g' => ⟨true, hx, fun _ => q _ H' g' (by rw [hc, if_neg Bool.false_ne_true]; exact .str _), fun z => by cases z⟩⟩
theorem ed_spl {C : Addr} {i : Nat} {t : Tm} {m : Nat} (hx : PySem.W.exmOne K (.ref C) (.ref C) = some true) (hT : Tb T H) (ha : At σ H i (enc t)) (hm : m ≤ 1000) (hs : spl t m = none) :
    ED T (LamX.tLam T.list (LamX.TTold K C teW) fun E => tCall (spSplit T C) [] E (tCons (tVar i) (tCons (tC (.int m)) tNil))) σ H (.str teW) := ed_told hT fun H1 g Q q => by
  obtain ⟨v, h1, h2⟩ := ha
  refine ⟨v, h1, t, m, v, rfl, g.dx h2, hm, g.2 hT, fun rows u e => (by rw [hs] at e; cases e), fun _ H' g' => ⟨true, hx, fun _ => q _ H' g' (.str _), fun z => by cases z⟩⟩
/-- f(..), f's promise spChk, spSplit: what it gives -/
theorem ed_chkC {C : Addr} {i : Nat} {d : PyData} {E : XK} (hT : Tb T H) (h : ED T (tVar i) σ H d) (hn : HN d) (hc : chkOk d = true) : ED T (tCall (spChk T C) [] E (tCons (tVar i) tNil)) σ H d := fun H1 g Q q =>
  h H1 g _ fun v H2 g2 hv => ⟨d, v, rfl, hv, hn, (g.trans g2).2 hT, fun _ v' H' g' hv' => q v' H' (g2.trans g') hv', fun z => by rw [hc] at z; cases z⟩
theorem ed_splC {C : Addr} {t : Tm} {m : Nat} {rows : List (Str × Tm)} {u : Tm} {E : XK} (hT : Tb T H) (h : ED T ta σ H (enc t)) (hb : ED T tb σ H (.int m)) (hm : m ≤ 1000) (hs : spl t m = some (rows, u)) : ED T (tCall (spSplit T C) [] E (tCons ta (tCons tb tNil))) σ H (.tuple [.list (rows.map encR), enc u]) := fun H1 g Q q =>
  h H1 g _ fun v H2 g2 hv => hb H2 (g.trans g2) _ fun w H3 g3 hw => by
    cases hw
    exact ⟨t, m, v, rfl, g3.dx hv, hm, ((g.trans g2).trans g3).2 hT, fun rows' u' e v' H' g' hv' => by rw [hs] at e; cases e; exact q v' H' ((g2.trans g3).trans g') hv', fun z => by rw [hs] at z; cases z⟩
end
/-! the callees -/
structure HasF (P : Program) (w : World) (K : PySem.W.Frag) (mg : Str → Option Value) (base : Heap) (CX : CXT) (k : Nat) (x : Str) (ps : List Str) (sp : Sp) : Prop where
  ex : ∃ f fd, FnOk P w K mg base CX k f fd ps sp ∧ Cal K mg x f fd ps
structure HasD (P : Program) (w : World) (K : PySem.W.Frag) (mg : Str → Option Value) (base : Heap) (CX : CXT) (k : Nat) (x : Str) (ps : List Str) (dvs : List V) (sp : Sp) : Prop where
  ex : ∃ f fd ds, FnOk P w K mg base CX k f fd ps sp ∧ CalD K mg x f fd ps dvs ds
abbrev sTold : Stmt := topS 36
structure Lib (P : Program) (w : World) (K : PySem.W.Frag) (mg : Str → Option Value) (base : Heap) (T : Tbl) (C : Addr) (cdW : Addr) : Prop where
  chk : HasF P w K mg base (L2.CX P w) 4 "check_term" ["term"] (spChk T C)
  split : HasF P w K mg base (L2.CX P w) 1 "split_pis" ["term", "many"] (spSplit T C)
  lifted : HasD P w K mg base CX0 20 "lifted" ["term", "many", "start"] [.int 0] (spF T (rLift 16))
  put_in : HasD P w K mg base CX0 41 "put_in" ["term", "value", "start"] [.int 0] (spF T (rPi 16))
  put_all : HasF P w K mg base CX0 41 "put_in_all" ["term", "values"] (spF T (rPia 16))
  arrow : HasF P w K mg base CX0 21 "arrow" ["kind", "body"] (spF T (rArrow 16))
  parts : HasF P w K mg base CX0 1 "parts" ["term"] (spF T rParts)
  withp : HasF P w K mg base CX0 1 "with_parts" ["term", "fresh"] (spF T rWith)
  size : HasF P w K mg base CX0 3 "size" ["term"] (spF T rSize)
  pl : HasF P w K mg base CX0 1 "pi_level" ["one", "other"] (spF T rPl)
  apply : HasF P w K mg base CX0 1 "apply" ["function", "arguments"] (spF T rApply)
  binders : HasF P w K mg base CX0 1 "binders" ["word", "rows", "body"] (spF T rBind)
  spine : HasF P w K mg base CX0 1 "spine" ["term"] (spF T rSpine)
  low : HasD P w K mg base CX0 3 "lowest_free" ["term", "depth"] [.int 0] (spF T rLow)
  names : HasF P w K mg base CX0 3 "names_in" ["term"] (spF T rNames)
  usesN : HasF P w K mg base CX0 4 "uses_name" ["term", "name"] (spF T rUsesN)
  usesV : HasF P w K mg base CX0 4 "uses_var" ["term", "number"] (spF T rUv)
  same : HasF P w K mg base CX0 22 "same" ["one", "other"] (spF T (rSame 20))
  roll : HasF P w K mg base CX0 1 "_law_roll" ["dice", "many"] (spRoll T)
  rounds : HasF P w K mg base CX0 2 "_law_rounds" ["script", "most"] (spRounds K T)
  term : HasF P w K mg base CX0 8 "_law_term" ["dice", "deep"] (spTerm T 7)
  named : HasF P w K mg base CX0 20 "_law_named" ["term", "names", "fresh"] (spF T (rNamed 19))
  back : HasF P w K mg base CX0 20 "_law_back" ["named", "bound"] (spF T (rBack 19))
  put : HasF P w K mg base CX0 20 "_law_put" ["named", "name", "value"] (spF T (rPut 19))
  free : HasF P w K mg base CX0 20 "_law_free" ["term", "depth"] (spF T (rFree 19))
  count : HasF P w K mg base CX0 20 "_law_count" ["term"] (spF T (rCount 19))
  told : ∃ f fd, Fun K "_law_told" "_law_told" sTold f fd ∧ mg "_law_told" = some (.ref f) ∧ PySem.W.keepIn K (.ref f) = true ∧ Binds K fd ["what"] []
  te : mg "TermError" = some (.ref C)
  exm : PySem.W.exmOne K (.ref C) (.ref C) = some true
  tb : LamX.TabB base mg cdW T.aW
  zrange : mg "range" = none
  zmax : mg "max" = none
  zlen : mg "len" = none
  zdict : mg "dict" = none
  zstr : mg "str" = none
end K1
namespace K1
open PySem PySem.Spec PyProof.Rows L2
abbrev sLaw : Stmt := topS 43
def NL : List Str := ["script", "dice", "term", "value", "many", "names", "due", "free", "one", "found", "arguments", "rows", "levels", "turn", "bad", "deep", "head", "k", "name", "part", "under"]
theorem scLaw : FnScope NL ["script"] (defScope sLaw) := ⟨rfl, rfl, rfl, by decide +kernel, rfl, by decide +kernel, by decide +kernel⟩
def lb : List Stmt := match (defBody sLaw).getD 0 (.Pass ⟨0, 0, 0, 0⟩) with
  | .For _ _ b _ _ => b
  | _ => []
abbrev lst (i : Nat) : Stmt := lb.getD i (.Pass ⟨0, 0, 0, 0⟩)
abbrev XL (P : Program) (w : World) (K : PySem.W.Frag) (mg : Str → Option Value) (base : Heap) (f cdW : Addr) (A : Around) (outer : List Env) (s : Shared) (H0 : Hp) (E : XK) : Cx := (cxOf CX0 P w K mg base NL "law" (defScope sLaw) f (.ref cdW) A outer s H0 E).nox
/-- the run's own: the list of the dice, the dice -/
abbrev GA := Addr × Addr
structure Bs (T : Tbl) (c : GA) (σ : L2.St) (H : Hp) : Prop where
  len : σ.length = 21
  dice : σ[1]? = some (some (.ref c.2))
  isd : IsDice H c.2
  tb : Tb T H
  lst : H c.1 = some (.lst [.ref c.2])
section
variable {T : Tbl} {c : GA} {σ : L2.St} {H H' : Hp}
theorem Bs.ne (b : Bs T c σ H) : c.1 ≠ c.2 := fun z => by
  obtain ⟨x, y, k, h⟩ := b.isd
  have := b.lst
  rw [z, h] at this
  cases this
theorem Bs.gr (g : Gr T H H') (b : Bs T c σ H) : Bs T c σ H' := ⟨b.len, b.dice, by obtain ⟨x, y, k, h⟩ := b.isd; exact ⟨x, y, k, g.lsts h⟩, g.2 b.tb, g.lsts b.lst⟩
theorem Bs.mu (m : Mu T c.2 H H') (b : Bs T c σ H) : Bs T c σ H' := ⟨b.len, b.dice, m.2.2 b.isd, m.2.1 b.tb, m.lsts b.lst b.ne⟩
theorem Bs.set {i : Nat} {x : V} (n : i ≠ 1) (b : Bs T c σ H) : Bs T c (σ.set i (some x)) H := ⟨by rw [List.length_set]; exact b.len, by rw [List.getElem?_set_ne n]; exact b.dice, b.isd, b.tb, b.lst⟩
end
structure LS (T : Tbl) (c : GA) (σ : L2.St) (H : Hp) (t v : Tm) (m : Nat) : Prop where
  bs : Bs T c σ H
  td : TD 6 t
  vd : TD 2 v
  mm : m ≤ 3
  a2 : At σ H 2 (enc t)
  a3 : At σ H 3 (enc v)
  a4 : At σ H 4 (.int (m : Nat))
section
variable {T : Tbl} {c : GA} {σ : L2.St} {H H' : Hp} {t v : Tm} {m : Nat}
theorem LS.gr (g : Gr T H H') (b : LS T c σ H t v m) : LS T c σ H' t v m := ⟨b.bs.gr g, b.td, b.vd, b.mm, b.a2.gr g, b.a3.gr g, b.a4.gr g⟩
theorem LS.mu (g : Mu T c.2 H H') (b : LS T c σ H t v m) : LS T c σ H' t v m := ⟨b.bs.mu g, b.td, b.vd, b.mm, b.a2.mu g b.bs.isd (nl_enc _), b.a3.mu g b.bs.isd (nl_enc _), b.a4.mu g b.bs.isd rfl⟩
theorem LS.set {i : Nat} {x : V} (n : 5 ≤ i) (b : LS T c σ H t v m) : LS T c (σ.set i (some x)) H t v m := ⟨b.bs.set (by omega), b.td, b.vd, b.mm, b.a2.ne (by omega), b.a3.ne (by omega), b.a4.ne (by omega)⟩
end
theorem cmx6 : cmx 6 = 1093 := rfl
theorem cmx2 : cmx 2 = 13 := rfl
section
variable {T : Tbl} {K : PySem.W.Frag} {σ : L2.St} {H H' : Hp} {l : Addr} {ta : TE}
theorem md_termC {n N : Nat} {i : Nat} {E : XK} (hn : n < N) (hd : IsDice H l) (hT : Tb T H) (hσ : σ[i]? = some (some (.ref l))) (h : MD T l ta σ H (fun d => ∃ r : Nat, r ≤ n ∧ d = .int r)) : MD T l (tCall (spTerm T N) [] E (tCons (tVar i) (tCons ta tNil))) σ H (RT n) := fun H1 m Q q =>
  ⟨_, hσ, h H1 m _ fun v H2 d m2 ⟨r, hr, e⟩ hv => by
    subst e
    cases hv
    exact ⟨l, r, rfl, by omega, m2.2.2 (m.2.2 hd), m2.2.1 (m.2.1 hT), fun t v' H' ht m3 hv' => q v' H' _ (m2.trans m3) ⟨t, ht.up hr, rfl⟩ hv'⟩⟩
end
section
variable {P : Program} {w : World} {K : PySem.W.Frag} {mg : Str → Option Value} {base : Heap} {T : Tbl} {C f cdW : Addr} {A : Around} {outer : List Env} {s : Shared} {H0 : Hp} {E : XK}
/-- term, value, many = .. -/
theorem step0 (L : Lib P w K mg base T C cdW) (hr : Room 43 (XL P w K mg base f cdW A outer s H0 E).A) : StepOk GA (XL P w K mg base f cdW A outer s H0 E) (lst 0) (Bs T) (fun c σ H => ∃ t v m, LS T c σ H t v m) := by
  obtain ⟨ft, ftd, GT, CT⟩ := L.term.ex
  obtain ⟨fr, frd, GR, CR⟩ := L.roll.ex
  have hr8 := hr.mono (show 8 ≤ 43 by omega)
  have hr1 := hr.mono (show 1 ≤ 43 by omega)
  have pr : ∀ {k : Int} {j : Nat} {p1 p2 p3 p4 : Pos}, PE (XL P w K mg base f cdW A outer s H0 E) (.Call (.Name "_law_roll" p1) [.Name "dice" p2, .Constant (.int k) j p3] [] p4) (tCall (spRoll T) [] E0 (tCons (tVar 1) (tCons (tC (.int k)) tNil))) :=
    fun {k j p1 p2 p3 p4} => pe_call GR hr1 rfl CR.m CR.kp CR.b .nil pass0 (pa_cons (pv 1) (pa_cons pe_int pa_nil))
  refine ⟨_, ps_asg (pe_tup (pa_cons (pe_call GT hr8 rfl CT.m CT.kp CT.b .nil pass0 (pa_cons (pv 1) (pa_cons pr pa_nil))) (pa_cons (pe_call GT hr8 rfl CT.m CT.kp CT.b .nil pass0 (pa_cons (pv 1) (pa_cons pe_int pa_nil))) (pa_cons pr pa_nil))))
    (pg_tup (by rfl) (pgs_cons (pg_name (i := 2) scLaw.nd rfl (.inr rfl)) (pgs_cons (pg_name (i := 3) scLaw.nd rfl (.inl rfl)) (pgs_cons (pg_name (i := 4) scLaw.nd rfl (.inl rfl)) pgs_nil)))), ?_⟩
  intro c D σ H b q
  have e1 : MD T c.2 (tCall (spTerm T 7) [] E0 (tCons (tVar 1) (tCons (tCall (spRoll T) [] E0 (tCons (tVar 1) (tCons (tC (.int (7 : Nat))) tNil))) tNil))) σ H (RT 6) := md_termC (by omega) b.isd b.tb b.dice (md_imp (md_roll (m := 7) b.isd b.dice (by omega)) fun d ⟨r, hr, e⟩ => ⟨r, by omega, e⟩)
  have e2 : MD T c.2 (tCall (spTerm T 7) [] E0 (tCons (tVar 1) (tCons (tC (.int (2 : Nat))) tNil))) σ H (RT 2) := md_termC (by omega) b.isd b.tb b.dice (md_imp md_int fun d e => ⟨2, by omega, e⟩)
  have e3 := md_roll (T := T) (E := E0) (m := 4) b.isd b.dice (by omega)
  refine (md_tup (mda_cons b.isd e1 (fun _ => RT.nl) (mda_cons b.isd e2 (fun _ => RT.nl) (mda_cons b.isd e3 (fun d ⟨r, _, h⟩ => by rw [h]; rfl) mda_nil))) (fun ds h => by obtain ⟨_, _, rfl, _, _, _, rfl, _, _, _, rfl, _, rfl⟩ := h; simp)) H Mu.refl _ fun x H1 d m hres hx => ?_
  obtain ⟨ds, rfl, d1, _, rfl, ⟨t, ht, rfl⟩, d2, _, rfl, ⟨v, hv, rfl⟩, d3, _, rfl, ⟨r, hr4, rfl⟩, rfl⟩ := hres
  cases hx with
  | @tup a xs _ ha hxs =>
  obtain ⟨y1, y2, y3, rfl, h1, h2, h3⟩ := dxA3 hxs
  refine ⟨a, _, rfl, SqT.of ha, rfl, _, _, rfl, _, _, rfl, _, _, rfl, rfl, ?_⟩
  refine q _ _ ⟨t, v, r, ?_⟩
  have b1 := b.mu m
  have hl := b.len
  exact ⟨((b1.set (i := 2) (by omega)).set (i := 3) (by omega)).set (i := 4) (by omega), ht, hv, by omega, ((At.new (by rw [hl]; omega) h1).ne (by omega)).ne (by omega), (At.new (by rw [List.length_set, hl]; omega) h2).ne (by omega), At.new (by rw [List.length_set, List.length_set, hl]; omega) h3⟩
end
end K1
namespace K1
open PySem PySem.Spec PyProof.Rows L2
section
variable {T : Tbl} {K : PySem.W.Frag} {σ : L2.St} {H H' : Hp} {te ta tb tc : TE} {E : XK} {t v : Tm} {m : Nat}
theorem ed_named {ns : List Str} {fr : Str} (hT : Tb T H) (h : ED T ta σ H (enc t)) (hb : ED T tb σ H (.list (ns.map .str))) (hd : dep t < 19) (hB : bnd ns.length t 0) (hn : ns.length ≤ 100) (hf : fr.length ≤ 100) : ED T (tCall (spF T (rNamed 19)) [] E (tCons ta (tCons tb (tCons (tC (.str fr)) tNil)))) σ H (encN (nam t ns fr)) :=
  ed_call (dd := []) hT (eda_cons h (eda_cons hb (eda_cons ed_str eda_nil))) (fun _ => .nil) ⟨t, ns, fr, rfl, hd, hB, by omega, hf, rfl⟩
theorem ed_back0 {n : Nm} (hT : Tb T H) (h : ED T ta σ H (encN n)) (hd : dpN n < 19) : ED T (tCall (spF T (rBack 19)) [] E (tCons ta (tCons (tLst tNil) tNil))) σ H (encB (bk n [])) :=
  ed_call (dd := []) hT (eda_cons h (eda_cons (ed_lst eda_nil) eda_nil)) (fun _ => .nil) ⟨n, [], rfl, hd, by show 0 + _ ≤ _; omega, rfl⟩
theorem ed_lift (hT : Tb T H) (h : ED T ta σ H (enc t)) (hb : ED T tb σ H (.int (m : Nat))) (hd : dep t ≤ 16) (hc : cnt t ≤ 50000 := by omega) : ED T (tCall (spF T (rLift 16)) [.int 0] E (tCons ta (tCons tb tNil))) σ H (enc (lf m 0 t)) :=
  ed_call (dd := [.int 0]) hT (eda_cons h (eda_cons hb eda_nil)) (fun _ => .cons (.int 0) .nil) ⟨t, m, 0, rfl, hd, hc, rfl⟩
theorem ed_pi (hT : Tb T H) (h : ED T ta σ H (enc t)) (hb : ED T tb σ H (enc v)) (hd : dep t ≤ 16) (hv : dep v ≤ 16) (hc : cnt t ≤ 50000 := by omega) (hcv : cnt v ≤ 50000 := by omega) : ED T (tCall (spF T (rPi 16)) [.int 0] E (tCons ta (tCons tb tNil))) σ H (enc (pf [v] 0 t)) :=
  ed_call (dd := [.int 0]) hT (eda_cons h (eda_cons hb eda_nil)) (fun _ => .cons (.int 0) .nil) ⟨t, v, 0, rfl, hd, hc, hv, hcv, rfl⟩
theorem ed_low (hT : Tb T H) (h : ED T ta σ H (enc t)) (hc : cnt t ≤ 50000) : ED T (tCall (spF T rLow) [.int 0] E (tCons ta tNil)) σ H (.int (lwT t)) :=
  ed_call (dd := [.int 0]) hT (eda_cons h eda_nil) (fun _ => .cons (.int 0) .nil) ⟨t, rfl, hc, rfl⟩
/-- an int in a list of ints -/
theorem inV_int (n : Int) : ∀ ns : List Int, inV (.int n) (ns.map V.int) = decide (n ∈ ns)
  | [] => by simp [inV]
  | x :: ns => by
    have ih := inV_int n ns
    unfold inV at ih ⊢
    rw [List.map_cons, List.any_cons, ih]
    show ((x == n) || decide (n ∈ ns)) = decide (n ∈ x :: ns)
    rw [Bool.eq_iff_iff]
    simp only [Bool.or_eq_true, beq_iff_eq, decide_eq_true_eq, List.mem_cons]
    exact ⟨fun h => h.elim (fun z => .inl z.symm) .inr, fun h => h.elim (fun z => .inl z.symm) .inr⟩
theorem flat_ints (ns : List Int) : (ns.map V.int).all flatV = true := by
  induction ns with
  | nil => rfl
  | cons s ss ih => rw [List.map_cons, List.all_cons, ih]; rfl
theorem ed_inI {n : Int} {ns : List Int} (h : ED T ta σ H (.int n)) (hb : ED T tb σ H (.list (ns.map .int))) : ED T (tOp (rIn K false) ta tb) σ H (.bool (decide (n ∈ ns))) := fun H1 g Q q =>
  h H1 g _ fun v H2 g2 hv => hb H2 (g.trans g2) _ fun w H3 g3 hw => by
    cases hv
    cases hw with
    | lst h1 h2 =>
      rw [dxA_ints h2] at h1
      refine ⟨_, _, rfl, .inl (SqL.of h1), rfl, flat_ints ns, ?_⟩
      show Q (.bl (inV (.int n) (ns.map V.int))) H3
      rw [inV_int]
      exact q _ H3 (g2.trans g3) (.bl _)
end
/-! the names -/
def nsL : List Str := ["p", "q", "r", "s", "t", "u", "v", "w"]
theorem nsL_hd : ∀ s ∈ nsL, s.cps.toList.head? ≠ some 98 := by decide
theorem nsL_bn : ∀ s ∈ nsL, ∀ n f, s ≠ bn n f := fun s hs n f => ne_bn (nsL_hd s hs) n f
theorem nsL_lay : ∀ s ∈ nsL, (PyData.str s).canLay0 = true := by decide +kernel
theorem zero_hd : ("zero" : Str).cps.toList.head? ≠ some 98 := by decide
theorem zero_bn : ∀ n f, ("zero" : Str) ≠ bn n f := fun n f => ne_bn zero_hd n f
theorem zero_nin : ("zero" : Str) ∉ nsL := by decide
theorem zero_words : ∀ s ∈ (["sort", "const", "rec", "app", "pi", "lam", "let"] : List Str), s ≠ "zero" := by decide
theorem bkn {ns : List Str} {fr : Str} {B : Nat} {t : Tm} (hB : B ≤ ns.length) (h1 : ∀ s ∈ ns, ∀ n, s ≠ bn n fr) (hb : bnd B t 0) : bk (nam t ns fr) [] = cl t ns 0 := bk_nam ns fr [] B hB h1 (fun _ _ h => by cases h) t 0 hb
theorem dpN_pt (z : Str) (val m : Nm) : dpN (pt z val m) ≤ dpN m + dpN val := by
  induction m with
  | fre s => show dpN (if s = z then val else .fre s) ≤ _; split <;> simp only [dpN] <;> omega
  | leaf l => simp only [pt, dpN]; omega
  | app f a i1 i2 => simp only [pt, dpN]; omega
  | bind p k m b i1 i2 => simp only [pt, dpN]; omega
  | letE k v m b i1 i2 i3 => simp only [pt, dpN]; omega
theorem cnt_wv {M : Nat} (hM : 1 ≤ M) {g : Nat → Nat → Tm} (hg : ∀ n d, cnt (g n d) ≤ M) (t : Tm) : ∀ s, cnt (wv g s t) ≤ cnt t * M := by
  induction t with
  | var n => intro s; show cnt (if s ≤ n then g n s else .var n) ≤ 1 * M; split; have := hg n s; omega; show 1 ≤ _; omega
  | leaf l => intro s; show 1 ≤ 1 * M; omega
  | bind p x k b i1 i2 =>
    intro s
    have := i1 s; have := i2 (s + 1)
    show 1 + (cnt (wv g s k) + cnt (wv g (s + 1) b)) ≤ (1 + (cnt k + cnt b)) * M
    rw [Nat.add_mul, Nat.add_mul]; omega
  | app f a i1 i2 =>
    intro s
    have := i1 s; have := i2 s
    show 1 + (cnt (wv g s f) + cnt (wv g s a)) ≤ (1 + (cnt f + cnt a)) * M
    rw [Nat.add_mul, Nat.add_mul]; omega
  | letE x k v b i1 i2 i3 =>
    intro s
    have := i1 s; have := i2 s; have := i3 (s + 1)
    show 1 + (cnt (wv g s k) + (cnt (wv g s v) + cnt (wv g (s + 1) b))) ≤ (1 + (cnt k + (cnt v + cnt b))) * M
    rw [Nat.add_mul, Nat.add_mul, Nat.add_mul]; omega
theorem cnt_lf (m : Nat) (t : Tm) : ∀ s, cnt (lf m s t) = cnt t := by
  induction t with
  | var n => intro s; rw [lf_var]; split <;> rfl
  | leaf l => intro s; rfl
  | bind p x k b ik ib => intro s; show 1 + (cnt (lf m s k) + cnt (lf m (s + 1) b)) = _; rw [ik, ib]; rfl
  | app f a i1 i2 => intro s; show 1 + (cnt (lf m s f) + cnt (lf m s a)) = _; rw [i1, i2]; rfl
  | letE x k v b i1 i2 i3 => intro s; show 1 + (cnt (lf m s k) + (cnt (lf m s v) + cnt (lf m (s + 1) b))) = _; rw [i1, i2, i3]; rfl
theorem cnt_pf1 (v t : Tm) (s : Nat) : cnt (pf [v] s t) ≤ cnt t * cnt v := by
  refine cnt_wv (cnt_pos v) (fun n d => ?_) t s
  rw [pg]
  split
  · rename_i q
    have e : n - d = 0 := by simp at q; omega
    rw [e, show ([v] : List Tm).getD (([v] : List Tm).length - 1 - 0) (.var 0) = v from rfl, cnt_lf]
    exact Nat.le_refl _
  · exact cnt_pos v
/-! the steps -/
def N5 (σ : L2.St) (H : Hp) : Prop := At σ H 5 (.list (nsL.map .str))
section
variable {P : Program} {w : World} {K : PySem.W.Frag} {mg : Str → Option Value} {base : Heap} {T : Tbl} {C f cdW : Addr} {A : Around} {outer : List Env} {s : Shared} {H0 : Hp} {E : XK}
theorem hu_of {A : Around} {n : Nat} (hr : Room n A) : A.units + 64 < cLine := by have := hr.un; omega
theorem step1 : StepOk GA (XL P w K mg base f cdW A outer s H0 E) (lst 1) (fun c σ H => ∃ t v m, LS T c σ H t v m) (fun c σ H => ∃ t v m, LS T c σ H t v m ∧ N5 σ H) := by
  refine step_asg (T := T) (i := 5) (ps_set (i := 5) scLaw.nd rfl (.inl rfl) (pe_lst (pa_cons pe_str (pa_cons pe_str (pa_cons pe_str (pa_cons pe_str (pa_cons pe_str (pa_cons pe_str (pa_cons pe_str (pa_cons pe_str pa_nil)))))))))) ?_
  rintro c σ H ⟨t, v, m, h⟩
  refine ⟨_, ed_lst (eda_cons ed_str (eda_cons ed_str (eda_cons ed_str (eda_cons ed_str (eda_cons ed_str (eda_cons ed_str (eda_cons ed_str (eda_cons ed_str eda_nil)))))))), fun x H' g hx => ⟨t, v, m, (h.gr g).set (by omega), At.new (by rw [h.bs.len]; omega) hx⟩⟩
abbrev A2 (T : Tbl) (c : GA) (σ : L2.St) (H : Hp) : Prop := ∃ t v m, LS T c σ H t v m ∧ N5 σ H
theorem A2.gr {T : Tbl} : ∀ (c : GA) (σ : L2.St) (H H' : Hp), A2 T c σ H → Gr T H H' → A2 T c σ H' := fun c σ H H' ⟨t, v, m, h, n⟩ g => ⟨t, v, m, h.gr g, At.gr g n⟩
theorem step2 (L : Lib P w K mg base T C cdW) (hr : Room 43 (XL P w K mg base f cdW A outer s H0 E).A) : StepOk GA (XL P w K mg base f cdW A outer s H0 E) (lst 2) (A2 T) (A2 T) := by
  obtain ⟨f1, d1, G1, C1⟩ := L.chk.ex
  obtain ⟨f2, d2, G2, C2⟩ := L.back.ex
  obtain ⟨f3, d3, G3, C3⟩ := L.named.ex
  obtain ⟨f4, d4, ds4, G4, C4⟩ := L.lifted.ex
  have r3 := hr.mono (show 4 ≤ 43 by omega)
  have r20 := hr.mono (show 20 ≤ 43 by omega)
  refine step_if (T := T) (PW.pt (pw_or (pt_cmpR (op_neD (hu_of hr)) (pe_call G1 r3 rfl C1.m C1.kp C1.b .nil passL (pa_cons (pv 2) pa_nil)) (pv 2) (nomark _))
    (pw_or1 (pt_cmpR (op_neD (hu_of hr)) (pe_call G2 r20 rfl C2.m C2.kp C2.b .nil pass0 (pa_cons (pe_call G3 r20 rfl C3.m C3.kp C3.b .nil pass0 (pa_cons (pe_call G4 r20 rfl C4.m C4.kp C4.b C4.v pass0 (pa_cons (pv 2) (pa_cons (pv 4) pa_nil))) (pa_cons (pv 5) (pa_cons pe_str pa_nil)))) (pa_cons (pe_lst pa_nil) pa_nil)))
      (pe_call G2 r20 rfl C2.m C2.kp C2.b .nil pass0 (pa_cons (pe_call G3 r20 rfl C3.m C3.kp C3.b .nil pass0 (pa_cons (pv 2) (pa_cons (pe_slice sl_list (pv 5) (po_some (pv 4)) po_none) (pa_cons pe_str pa_nil)))) (pa_cons (pe_lst pa_nil) pa_nil))) (nomark _))))) (pss_one (ps_ret pe_bl)) ?_ A2.gr
  rintro c σ H ⟨t, v, m, h, n5⟩
  have hT := h.bs.tb
  have hdp := h.td.dp
  have hct := h.td.ct
  rw [cmx6] at hct
  have hm := h.mm
  have l8 : nsL.length = 8 := rfl
  have hb5 := h.td.b 0
  have ed1 : bk (nam (lf m 0 t) nsL "") [] = cl t (nsL.drop m) 0 := (bkn (B := 5 + m) (by rw [l8]; omega) (fun s hs n => nsL_bn s hs n _) (bnd_lf_gen 5 m t 0 0 (Nat.le_refl _) hb5)).trans (cl_lf m 5 nsL (by rw [l8]; omega) t 0 hb5)
  have ed2 : bk (nam t (nsL.drop m) "") [] = cl t (nsL.drop m) 0 := bkn (B := 5) (by rw [List.length_drop, l8]; omega) (fun s hs n => nsL_bn s (List.mem_of_mem_drop hs) n _) hb5
  have hs : SeqAt.shaped (encB (cl t (nsL.drop m) 0)) = true := shaped_cl (fun s hs => nsL_lay s (List.mem_of_mem_drop hs)) h.td.ok (by omega)
  refine et_or (a := false) (b := false) (et_ne (ed_chkC hT (ed_at h.a2) (hn_enc t) (chk_top h.td.lv (by omega) (by omega))) (ed_at h.a2) (shaped_enc h.td.ok (by omega))) (fun _ => et_ne (d := encB (cl t (nsL.drop m) 0)) ?_ ?_ hs)
  · exact ed_is (ed_back0 hT (ed_named hT (ed_lift hT (ed_at h.a2) (ed_at h.a4) (by omega)) (ed_at n5) (by rw [dep_lf]; omega) (bnd_mono (by rw [l8]; omega) _ 0 (bnd_lf_gen 5 m t 0 0 (Nat.le_refl _) hb5)) (by decide) (by decide)) (by rw [dpN_nam, dep_lf]; omega)) (congrArg encB ed1)
  · exact ed_is (ed_back0 hT (ed_named (ns := nsL.drop m) hT (ed_at h.a2) (ed_is (ed_slL (ed_at n5) (ed_at h.a4) (by rw [List.length_map, l8]; omega)) (by rw [List.map_drop])) (by omega) (bnd_mono (by rw [List.length_drop, l8]; omega) _ 0 hb5) (by rw [List.length_drop, l8]; omega) (by decide)) (by rw [dpN_nam]; omega)) (congrArg encB ed2)
end
end K1
namespace K1
open PySem PySem.Spec PyProof.Rows L2
abbrev A1 (T : Tbl) (c : GA) (σ : L2.St) (H : Hp) : Prop := ∃ t v m, LS T c σ H t v m
theorem A1.gr {T : Tbl} : ∀ (c : GA) (σ : L2.St) (H H' : Hp), A1 T c σ H → Gr T H H' → A1 T c σ H' := fun c σ H H' ⟨t, v, m, h⟩ g => ⟨t, v, m, h.gr g⟩
def dueN (t v : Tm) : Nm := pt "zero" (nam v nsL "v") (nam t ("zero" :: nsL) "")
abbrev A4 (T : Tbl) (c : GA) (σ : L2.St) (H : Hp) : Prop := ∃ t v m, LS T c σ H t v m ∧ N5 σ H ∧ At σ H 6 (encN (dueN t v))
theorem A4.gr {T : Tbl} : ∀ (c : GA) (σ : L2.St) (H H' : Hp), A4 T c σ H → Gr T H H' → A4 T c σ H' := fun c σ H H' ⟨t, v, m, h, n, d⟩ g => ⟨t, v, m, h.gr g, At.gr g n, d.gr g⟩
abbrev A6 (T : Tbl) (c : GA) (σ : L2.St) (H : Hp) : Prop := ∃ t v m, LS T c σ H t v m ∧ At σ H 7 (.list (ilD (frT t 0)))
theorem A6.gr {T : Tbl} : ∀ (c : GA) (σ : L2.St) (H H' : Hp), A6 T c σ H → Gr T H H' → A6 T c σ H' := fun c σ H H' ⟨t, v, m, h, n⟩ g => ⟨t, v, m, h.gr g, n.gr g⟩
def cC : Tm := .leaf (.cst "c")
def oneT (t v : Tm) : Tm := pf [cC] 0 (pf [lf 1 0 v] 0 t)
abbrev A8 (T : Tbl) (c : GA) (σ : L2.St) (H : Hp) : Prop := ∃ t v m, LS T c σ H t v m ∧ At σ H 8 (enc (oneT t v))
theorem A8.gr {T : Tbl} : ∀ (c : GA) (σ : L2.St) (H H' : Hp), A8 T c σ H → Gr T H H' → A8 T c σ H' := fun c σ H H' ⟨t, v, m, h, n⟩ g => ⟨t, v, m, h.gr g, n.gr g⟩
section
variable {P : Program} {w : World} {K : PySem.W.Frag} {mg : Str → Option Value} {base : Heap} {T : Tbl} {C f cdW : Addr} {A : Around} {outer : List Env} {s : Shared} {H0 : Hp} {E : XK}
theorem step3 (L : Lib P w K mg base T C cdW) (hr : Room 43 (XL P w K mg base f cdW A outer s H0 E).A) : StepOk GA (XL P w K mg base f cdW A outer s H0 E) (lst 3) (A2 T) (A2 T) := by
  obtain ⟨f1, d1, ds1, G1, C1⟩ := L.put_in.ex
  obtain ⟨f2, d2, ds2, G2, C2⟩ := L.lifted.ex
  obtain ⟨f3, d3, G3, C3⟩ := L.count.ex
  obtain ⟨f4, d4, G4, C4⟩ := L.size.ex
  have r3 := hr.mono (show 3 ≤ 43 by omega)
  have r20 := hr.mono (show 20 ≤ 43 by omega)
  have r41 := hr.mono (show 41 ≤ 43 by omega)
  refine step_if (T := T) (PW.pt (pw_or (pt_cmpR (op_neD (hu_of hr)) (pe_call G1 r41 rfl C1.m C1.kp C1.b C1.v pass0 (pa_cons (pe_call G2 r20 rfl C2.m C2.kp C2.b C2.v pass0 (pa_cons (pv 2) (pa_cons pe_int pa_nil))) (pa_cons (pv 3) pa_nil))) (pv 2) (nomark _))
    (pw_or1 (pt_cmpR op_ne (pe_call G3 r20 rfl C3.m C3.kp C3.b .nil pass0 (pa_cons (pv 2) pa_nil)) (pe_call G4 r3 rfl C4.m C4.kp C4.b .nil pass0 (pa_cons (pv 2) pa_nil)) (nomark _))))) (pss_one (ps_ret pe_bl)) ?_ A2.gr
  rintro c σ H ⟨t, v, m, h, n5⟩
  have hT := h.bs.tb
  have hdp := h.td.dp
  have hdv := h.vd.dp
  have hct := h.td.ct
  have hcv0 := h.vd.ct
  have hcv : cnt v ≤ 13 := hcv0
  have hcl := cnt_lf 1 t 0
  rw [cmx6] at hct
  refine et_or (a := false) (b := false) (et_ne (d := enc t) (ed_is (ed_pi hT (ed_lift (m := 1) hT (ed_at h.a2) ed_int (by omega)) (ed_at h.a3) (by rw [dep_lf]; omega) (by omega)) (congrArg enc (pf_lf v t 0))) (ed_at h.a2) (shaped_enc h.td.ok (by omega))) (fun _ => et_test (ed_is (ed_neI (a := cnt t) (b := cnt t) (ed_call (dd := []) hT (eda_cons (ed_at h.a2) eda_nil) (fun _ => .nil) ⟨t, rfl, by omega, rfl⟩) (ed_call (dd := []) hT (eda_cons (ed_at h.a2) eda_nil) (fun _ => .nil) ⟨t, rfl, by omega, rfl⟩)) (by simp)))
theorem step4 (L : Lib P w K mg base T C cdW) (hr : Room 43 (XL P w K mg base f cdW A outer s H0 E).A) : StepOk GA (XL P w K mg base f cdW A outer s H0 E) (lst 4) (A2 T) (A4 T) := by
  obtain ⟨f1, d1, G1, C1⟩ := L.put.ex
  obtain ⟨f3, d3, G3, C3⟩ := L.named.ex
  have r20 := hr.mono (show 20 ≤ 43 by omega)
  refine step_asg (T := T) (i := 6) (ps_set (i := 6) scLaw.nd rfl (.inl rfl) (pe_call G1 r20 rfl C1.m C1.kp C1.b .nil pass0 (pa_cons (pe_call G3 r20 rfl C3.m C3.kp C3.b .nil pass0 (pa_cons (pv 2) (pa_cons (pe_op op_cat (pe_lst (pa_cons pe_str pa_nil)) (pv 5)) (pa_cons pe_str pa_nil))))
    (pa_cons pe_str (pa_cons (pe_call G3 r20 rfl C3.m C3.kp C3.b .nil pass0 (pa_cons (pv 3) (pa_cons (pv 5) (pa_cons pe_str pa_nil)))) pa_nil))))) ?_
  rintro c σ H ⟨t, v, m, h, n5⟩
  have hT := h.bs.tb
  have hdp := h.td.dp
  have hdv := h.vd.dp
  have l8 : nsL.length = 8 := rfl
  have l9 : (("zero" : Str) :: nsL).length = 9 := rfl
  have zl : ∀ s ∈ ("zero" : Str) :: nsL, (PyData.str s).canLay0 = true := by decide +kernel
  have em : ED T (tCall (spF T (rNamed 19)) [] E0 (tCons (tVar 2) (tCons (tOp rCat (tLst (tCons (tC (.str "zero")) tNil)) (tVar 5)) (tCons (tC (.str "")) tNil)))) σ H (encN (nam t ("zero" :: nsL) "")) := ed_named (ns := "zero" :: nsL) hT (ed_at h.a2) (ed_catL (a := [.str "zero"]) (b := nsL.map .str) (ed_lst (eda_cons ed_str eda_nil)) (ed_at n5) (by decide)) (by omega) (bnd_mono (by rw [l9]; omega) _ 0 (h.td.b 0)) (by decide) (by decide)
  have ev : ED T (tCall (spF T (rNamed 19)) [] E0 (tCons (tVar 3) (tCons (tVar 5) (tCons (tC (.str "v")) tNil)))) σ H (encN (nam v nsL "v")) := ed_named hT (ed_at h.a3) (ed_at n5) (by omega) (bnd_mono (by rw [l8]; omega) _ 0 (h.vd.b 0)) (by decide) (by decide)
  have hdn : (encN (nam t ("zero" :: nsL) "")).depth ≤ 7 := by have := dep_encN (nam t ("zero" :: nsL) ""); rw [dpN_nam] at this; omega
  refine ⟨_, ed_call (dd := []) (R := rPut 19) (r := putD "zero" (encN (nam v nsL "v")) (encN (nam t ("zero" :: nsL) ""))) hT (eda_cons em (eda_cons ed_str (eda_cons ev eda_nil))) (fun _ => .nil) ⟨_, "zero", _, rfl, by omega, by omega, lay_nam t _ "" h.td.ok zl (by decide +kernel), by decide +kernel, plain_encN _, nl_encN _, rfl⟩, fun x H' g hx => ?_⟩
  rw [put_nm "zero" zero_words _ _ (cl_nam zero_bn t _ _ h.td.nz)] at hx
  exact ⟨t, v, m, (h.gr g).set (by omega), (At.gr g n5).ne (by omega), At.new (by rw [h.bs.len]; omega) hx⟩
theorem step5 (L : Lib P w K mg base T C cdW) (hr : Room 43 (XL P w K mg base f cdW A outer s H0 E).A) : StepOk GA (XL P w K mg base f cdW A outer s H0 E) (lst 5) (A4 T) (A4 T) := by
  obtain ⟨f1, d1, ds1, G1, C1⟩ := L.put_in.ex
  obtain ⟨f2, d2, G2, C2⟩ := L.back.ex
  obtain ⟨f3, d3, G3, C3⟩ := L.named.ex
  have r20 := hr.mono (show 20 ≤ 43 by omega)
  have r41 := hr.mono (show 41 ≤ 43 by omega)
  refine step_if (T := T) (pt_cmpR (op_neD (hu_of hr)) (pe_call G2 r20 rfl C2.m C2.kp C2.b .nil pass0 (pa_cons (pe_call G3 r20 rfl C3.m C3.kp C3.b .nil pass0 (pa_cons (pe_call G1 r41 rfl C1.m C1.kp C1.b C1.v pass0 (pa_cons (pv 2) (pa_cons (pv 3) pa_nil))) (pa_cons (pv 5) (pa_cons pe_str pa_nil)))) (pa_cons (pe_lst pa_nil) pa_nil)))
    (pe_call G2 r20 rfl C2.m C2.kp C2.b .nil pass0 (pa_cons (pv 6) (pa_cons (pe_lst pa_nil) pa_nil))) (nomark _)) (pss_one (ps_ret pe_bl)) ?_ A4.gr
  rintro c σ H ⟨t, v, m, h, n5, d6⟩
  have hT := h.bs.tb
  have hdp := h.td.dp
  have hdv := h.vd.dp
  have l8 : nsL.length = 8 := rfl
  have hct : cnt t ≤ 1093 := h.td.ct
  have hcv0 := h.vd.ct
  have hcv : cnt v ≤ 13 := hcv0
  have hcl := cnt_lf 1 t 0
  have hdq : dep (pf [v] 0 t) ≤ 11 := by have := dep_pf1 v t 0; omega
  have hbq : bnd 5 (pf [v] 0 t) 0 := bnd_pf 5 v (h.vd.b 0) t (h.td.b 0) (by omega)
  have okq : TmOk (pf [v] 0 t) := TmOk_pf (fun u hu => by rw [List.mem_singleton.mp hu]; exact h.vd.ok) h.td.ok 0
  have e1 : bk (nam (pf [v] 0 t) nsL "w") [] = cl (pf [v] 0 t) nsL 0 := bkn (B := 5) (by rw [l8]; omega) (fun s hs n => nsL_bn s hs n _) hbq
  have e2 : bk (dueN t v) [] = cl (pf [v] 0 t) nsL 0 := bk_pt "zero" nsL v "v" 5 (by rw [l8]; omega) (h.vd.b 0) (by rw [l8]; omega) (fun n => zero_bn n _) (fun s hs n => nsL_bn s hs n _) (fun s hs n => nsL_bn s hs n _) zero_nin t 0 (h.td.b 0)
  refine et_ne (d := encB (cl (pf [v] 0 t) nsL 0)) (ed_is (ed_back0 hT (ed_named hT (ed_pi hT (ed_at h.a2) (ed_at h.a3) (by omega) (by omega)) (ed_at n5) (by omega) (bnd_mono (by rw [l8]; omega) _ 0 hbq) (by decide) (by decide)) (by rw [dpN_nam]; omega)) (congrArg encB e1))
    (ed_is (ed_back0 hT (ed_at d6) ?_) (congrArg encB e2)) (shaped_cl nsL_lay okq (by omega))
  have := dpN_pt "zero" (nam v nsL "v") (nam t ("zero" :: nsL) "")
  rw [dpN_nam, dpN_nam] at this
  show dpN (pt "zero" _ _) < 19
  omega
theorem step6 (L : Lib P w K mg base T C cdW) (hr : Room 43 (XL P w K mg base f cdW A outer s H0 E).A) : StepOk GA (XL P w K mg base f cdW A outer s H0 E) (lst 6) (A4 T) (A6 T) := by
  obtain ⟨f1, d1, G1, C1⟩ := L.free.ex
  have r20 := hr.mono (show 20 ≤ 43 by omega)
  refine step_asg (T := T) (i := 7) (ps_set (i := 7) scLaw.nd rfl (.inr rfl) (pe_call G1 r20 rfl C1.m C1.kp C1.b .nil pass0 (pa_cons (pv 2) (pa_cons pe_int pa_nil)))) ?_
  rintro c σ H ⟨t, v, m, h, n5, d6⟩
  have hdp := h.td.dp
  have hct := h.td.ct
  rw [cmx6] at hct
  exact ⟨_, ed_call (dd := []) (R := rFree 19) h.bs.tb (eda_cons (ed_at h.a2) (eda_cons ed_int eda_nil)) (fun _ => .nil) ⟨t, 0, rfl, by omega, by omega, rfl⟩, fun x H' g hx => ⟨t, v, m, (h.gr g).set (by omega), At.new (by rw [h.bs.len]; omega) hx⟩⟩
theorem step7 (L : Lib P w K mg base T C cdW) (hr : Room 43 (XL P w K mg base f cdW A outer s H0 E).A) : StepOk GA (XL P w K mg base f cdW A outer s H0 E) (lst 7) (A6 T) (A6 T) := by
  obtain ⟨f1, d1, ds1, G1, C1⟩ := L.low.ex
  obtain ⟨f2, d2, G2, C2⟩ := L.usesV.ex
  have r3 := hr.mono (show 3 ≤ 43 by omega)
  have r4 := hr.mono (show 4 ≤ 43 by omega)
  refine step_if (T := T) (PW.pt (pw_or (pt_cmpR op_ne (pe_call G1 r3 rfl C1.m C1.kp C1.b C1.v pass0 (pa_cons (pv 2) pa_nil)) (pe_callB (cr_max rfl) rfl L.zmax PyProof.Rows.boot_max (pa_cons (pe_op op_cat (pe_lst (pa_cons pe_int pa_nil)) (pe_lc (own := [("one", 8)]) (g := gName 8) (tt := tYes) rfl scLaw.nd (pi_list (pv 7)) (blkOk_by (N := NL) (sc := defScope sLaw) (by decide +kernel)) (fun _ _ _ _ _ => pg_name (i := 8) scLaw.nd rfl (Or.inl rfl)) (fun _ _ _ _ _ => pts_nil)
      (fun _ _ _ _ _ => pe_op op_add (pv 8) pe_int))) pa_nil)) (nomark _))
    (pw_or1 (pt_cmpR (op_neD (hu_of hr)) (pe_lc (own := [("k", 17)]) (g := gName 17) rfl scLaw.nd (pi_range1 rfl L.zrange (pa_cons pe_int pa_nil)) (blkOk_by (N := NL) (sc := defScope sLaw) (by decide +kernel)) (fun _ _ _ _ _ => pg_name (i := 17) scLaw.nd rfl (Or.inl rfl))
      (fun _ _ _ _ _ => pts_one (pt_cmpR op_ne (pe_call G2 r4 rfl C2.m C2.kp C2.b .nil pass0 (pa_cons (pv 2) (pa_cons (pv 17) pa_nil))) (pe_cmpR (r := rIn K false) op_in_seq (pv 17) (pv 7) (by rfl)) (nomark _))) (fun _ _ _ _ _ => pv 17)) (pe_lst pa_nil) (nomark _))))) (pss_one (ps_ret pe_bl)) ?_ A6.gr
  rintro c σ H ⟨t, v, m, h, d7⟩
  have hT := h.bs.tb
  have hdp := h.td.dp
  have hct := h.td.ct
  rw [cmx6] at hct
  have hfl := frT_len t 0
  have hlen := h.bs.len
  refine et_or (a := false) (b := false) (et_test (ed_is (ed_neI (a := lwT t) (b := lwT t) (ed_low hT (ed_at h.a2) (by omega)) (ed_max (ns := mxL t) (ed_is (ed_catL (a := [.int 0]) (b := (frT t 0).map fun n => .int ((n : Nat) + 1)) (ed_lst (eda_cons ed_int eda_nil)) (ed_lcA (α := Nat) (L := frT t 0) (f1 := fun n => .int (n : Nat)) (f2 := fun n => .int ((n : Nat) + 1)) (g := gName 8) (vs := [8]) (wi := iList K (tVar 7)) (te := tOp (rI0 fun i j => .int (i + j)) (tVar 8) (tC (.int 1)))
      (ei_list (ed_at d7)) (by omega) (fun _ _ => rfl) (fun n hn x H3 g3 hx => ⟨_, fun Q h => h, wipe_set1, ed_add (ed_own (by rw [hlen]; omega) hx) ed_int⟩)) (by rw [List.length_map]; show 1 + _ ≤ _; omega)) ?_) (low_max_eq t) (by show 0 < _; simp [mxL]))) (by simp)))
    (fun _ => et_ne (d := .list []) (ed_is (ed_lc (α := Nat) (L := List.range 6) (f1 := fun i => .int (i : Nat)) (f2 := fun i => .int (i : Nat)) (b := fun _ => false) (g := gName 17) (vs := [17]) (wi := iRng1 (tCons (tC (.int 6)) tNil)) (te := tVar 17)
      (ei_range (n := 6) (by decide) (eda_cons ed_int eda_nil)) (by simp) (fun _ _ z => by cases z) (fun k hk x H3 g3 hx => ⟨_, fun Q h => h, wipe_set1, ?_, fun z => by cases z⟩)) ?_) (ed_lst eda_nil) (by decide))
  · show PyData.list (.int 0 :: (frT t 0).map fun n => .int ((n : Nat) + 1)) = .list ((mxL t).map .int)
    unfold mxL
    rw [List.map_cons, List.map_map]
    rfl
  · have h2 := (h.a2.gr g3).blk (j := 17) (x := x) (by omega)
    have h7 := (d7.gr g3).blk (j := 17) (x := x) (by omega)
    have e7 : ilD (frT t 0) = ((frT t 0).map fun n => ((n : Nat) : Int)).map PyData.int := by unfold ilD; rw [List.map_map]; rfl
    rw [e7] at h7
    refine et_test (ed_is (ed_neB (a := decide (k ∈ frT t 0)) (b := decide (k ∈ frT t 0)) (ed_is (ed_call (dd := []) (R := rUv) (g3.2 hT) (eda_cons (ed_at h2) (eda_cons (ed_own (by rw [hlen]; omega) hx) eda_nil)) (fun _ => .nil) ⟨t, k, rfl, by omega, h.td.ok, by omega, rfl⟩) (congrArg PyData.bool (uses_fr t k)))
      (ed_is (ed_inI (n := (k : Nat)) (ed_own (by rw [hlen]; omega) hx) (ed_at h7)) (congrArg PyData.bool (dec_iff ⟨fun z => ?_, fun z => List.mem_map.mpr ⟨k, z, rfl⟩⟩)))) (by simp))
    obtain ⟨n, hn, e⟩ := List.mem_map.mp z
    have : n = k := by omega
    rw [← this]; exact hn
  · simp
end
end K1
namespace K1
open PySem PySem.Spec PyProof.Rows L2
def kv1 (c : Str) : Key × V := (Sum.inr c, V.int 1)
theorem merge_app : ∀ (L acc : List Str), (acc ++ L).Nodup → mergeK (acc.map kv1) (L.map kv1) = (acc ++ L).map kv1
  | [], acc, _ => by rw [List.append_nil]; rfl
  | c :: L, acc, h => by
    have hn : c ∉ acc := fun z => (List.nodup_append.mp h).2.2 c z c List.mem_cons_self rfl
    have hp : putK (acc.map kv1) (Sum.inr c) (V.int 1) = (acc ++ [c]).map kv1 := by
      unfold putK
      rw [if_neg, List.map_append]
      · rfl
      · rw [List.any_map, List.any_eq_true]
        rintro ⟨x, h1, h2⟩
        have h2 : (Sum.inr x : Key) = Sum.inr c := of_decide_eq_true h2
        exact hn ((Sum.inr.inj h2) ▸ h1)
    show mergeK (putK (acc.map kv1) (Sum.inr c) (V.int 1)) (L.map kv1) = _
    rw [hp, merge_app L (acc ++ [c]) (by rw [List.append_assoc]; exact h), List.append_assoc]
    rfl
section
variable {T : Tbl} {K : PySem.W.Frag} {σ : L2.St} {H H' : Hp} {te ta tb tc : TE} {E : XK} {t v : Tm} {m : Nat}
def ndD (c : Str) : PyData := .tuple [.str c, .int 1]
theorem prs_of : ∀ {L : List Str} {xs : List V}, DxA H xs (L.map ndD) → ∃ ps : List Addr, xs = ps.map V.ref ∧ PySem.Paired (fun p kv => SqT K H p [kV kv.1, kv.2]) ps (L.map kv1)
  | [], _, h => by cases h; exact ⟨[], rfl, .nil⟩
  | c :: L, _, h => by
    cases h with
    | cons a b =>
      obtain ⟨ps, rfl, q⟩ := prs_of b
      cases a with
      | @tup p ys _ hp hy =>
      obtain ⟨y1, y2, rfl, h1, h2⟩ := dxA2 hy
      cases h1; cases h2
      exact ⟨p :: ps, rfl, .cons (SqT.of hp) q⟩
theorem ed_lenDict {L : List Str} (hL : L.Nodup) (h : ED T te σ H (.list (L.map ndD))) : ED T (tCB (fun xs H Q => ∃ a kvs, xs = [V.ref a] ∧ H a = some (.dK kvs) ∧ Q (.int kvs.length) H) (tCons (tCB (fun xs H Q => ∃ (a : Addr) (ps : List Addr) (kvs : List (Key × V)), xs = [.ref a] ∧ SqL K H a (ps.map V.ref) ∧ PySem.Paired (fun p kv => SqT K H p [kV kv.1, kv.2]) ps kvs ∧
    ∀ p, H p = none → Q (.ref p) (upd H p (.dK (mergeK [] kvs)))) (tCons te tNil)) tNil)) σ H (.int (L.length : Nat)) := fun H1 g Q q =>
  h H1 g _ fun v H2 g2 hv => by
    cases hv with
    | @lst a xs _ ha hxs =>
    obtain ⟨ps, rfl, pr⟩ := prs_of (K := K) hxs
    refine ⟨a, ps, L.map kv1, rfl, SqL.of ha, pr, fun p hp => ?_⟩
    have e : mergeK [] (L.map kv1) = L.map kv1 := merge_app L [] (by simpa using hL)
    rw [e]
    refine ⟨p, L.map kv1, rfl, upd_same, ?_⟩
    rw [List.length_map]
    exact q _ _ (g2.trans (Gr.new hp)) (.int _)
end
abbrev A10 (T : Tbl) (c : GA) (σ : L2.St) (H : Hp) : Prop := ∃ t v m, LS T c σ H t v m ∧ At σ H 9 (.tuple ((nmT t).map .str))
theorem A10.gr {T : Tbl} : ∀ (c : GA) (σ : L2.St) (H H' : Hp), A10 T c σ H → Gr T H H' → A10 T c σ H' := fun c σ H H' ⟨t, v, m, h, n⟩ g => ⟨t, v, m, h.gr g, n.gr g⟩
theorem one_facts {T : Tbl} {c : GA} {σ : L2.St} {H : Hp} {t v : Tm} {m : Nat} (h : LS T c σ H t v m) : dep (pf [lf 1 0 v] 0 t) ≤ 11 ∧ dep (oneT t v) ≤ 13 ∧ TmOk (oneT t v) ∧ cnt (oneT t v) ≤ 20000 ∧ lwT (oneT t v) ≤ 6 := by
  have hdp := h.td.dp
  have hdv := h.vd.dp
  have hct := h.td.ct
  have hcv := h.vd.ct
  rw [cmx6] at hct
  rw [cmx2] at hcv
  have d1 := dep_pf1 (lf 1 0 v) t 0
  rw [dep_lf] at d1
  have d2 := dep_pf1 cC (pf [lf 1 0 v] 0 t) 0
  have c1 := cnt_pf1 (lf 1 0 v) t 0
  rw [cnt_lf] at c1
  have c2 := cnt_pf1 cC (pf [lf 1 0 v] 0 t) 0
  have b1 : bnd 6 (lf 1 0 v) 0 := bnd_lf_gen 5 1 v 0 0 (Nat.le_refl _) (h.vd.b 0)
  have b2 : bnd 6 (pf [lf 1 0 v] 0 t) 0 := bnd_pf 6 _ b1 t (bnd_mono (by omega) _ 0 (h.td.b 0)) (by omega)
  have b3 : bnd 6 (oneT t v) 0 := bnd_pf 6 cC (show bnd 6 cC 0 from True.intro) _ b2 (by omega)
  have dc : dep cC = 1 := rfl
  have cc : cnt cC = 1 := rfl
  rw [dc] at d2
  rw [cc, Nat.mul_one] at c2
  have c3 : cnt t * cnt v ≤ 1093 * 13 := Nat.mul_le_mul hct hcv
  refine ⟨by omega, by show dep (pf [cC] 0 _) ≤ 13; omega, TmOk_pf (fun u hu => by rw [List.mem_singleton.mp hu]; show (PyData.str "c").canLay0 = true; decide +kernel) (TmOk_pf (fun u hu => by rw [List.mem_singleton.mp hu]; exact TmOk_lf h.vd.ok 1 0) h.td.ok 0) 0, by show cnt (pf [cC] 0 _) ≤ 20000; omega, low_bnd b3⟩
section
variable {P : Program} {w : World} {K : PySem.W.Frag} {mg : Str → Option Value} {base : Heap} {T : Tbl} {C f cdW : Addr} {A : Around} {outer : List Env} {s : Shared} {H0 : Hp} {E : XK}
theorem ed_one {T : Tbl} {c : GA} {σ : L2.St} {H : Hp} {t v : Tm} {m : Nat} (h : LS T c σ H t v m) : ED T (tCall (spF T (rPi 16)) [.int 0] E0 (tCons (tCall (spF T (rPi 16)) [.int 0] E0 (tCons (tVar 2) (tCons (tCall (spF T (rLift 16)) [.int 0] E0 (tCons (tVar 3) (tCons (tC (.int 1)) tNil))) tNil))) (tCons (tTup (tCons (tC (.str "const")) (tCons (tC (.str "c")) tNil))) tNil))) σ H (enc (oneT t v)) := by
  have hT := h.bs.tb
  have hdp := h.td.dp
  have hdv := h.vd.dp
  have hf := one_facts h
  have hct : cnt t ≤ 1093 := h.td.ct
  have hcv : cnt v ≤ 13 := h.vd.ct
  have hcl := cnt_lf 1 v 0
  have hcc : cnt cC = 1 := rfl
  have hcp := cnt_pf1 (lf 1 0 v) t 0
  rw [cnt_lf] at hcp
  have hcm : cnt t * cnt v ≤ 1093 * 13 := Nat.mul_le_mul hct hcv
  exact ed_pi (v := cC) hT (ed_pi hT (ed_at h.a2) (ed_lift (m := 1) hT (ed_at h.a3) ed_int (by omega)) (by omega) (by rw [dep_lf]; omega)) (ed_tup (eda_cons ed_str (eda_cons ed_str eda_nil))) (by omega) (by decide)
theorem step8 (L : Lib P w K mg base T C cdW) (hr : Room 43 (XL P w K mg base f cdW A outer s H0 E).A) : StepOk GA (XL P w K mg base f cdW A outer s H0 E) (lst 8) (A6 T) (A8 T) := by
  obtain ⟨f1, d1, ds1, G1, C1⟩ := L.put_in.ex
  obtain ⟨f2, d2, ds2, G2, C2⟩ := L.lifted.ex
  have r20 := hr.mono (show 20 ≤ 43 by omega)
  have r41 := hr.mono (show 41 ≤ 43 by omega)
  refine step_asg (T := T) (i := 8) (ps_set (i := 8) scLaw.nd rfl (.inl rfl) (pe_call G1 r41 rfl C1.m C1.kp C1.b C1.v pass0 (pa_cons (pe_call G1 r41 rfl C1.m C1.kp C1.b C1.v pass0 (pa_cons (pv 2) (pa_cons (pe_call G2 r20 rfl C2.m C2.kp C2.b C2.v pass0 (pa_cons (pv 3) (pa_cons pe_int pa_nil))) pa_nil)))
    (pa_cons (pe_tup (pa_cons pe_str (pa_cons pe_str pa_nil))) pa_nil)))) ?_
  rintro c σ H ⟨t, v, m, h, d7⟩
  exact ⟨_, ed_one h, fun x H' g hx => ⟨t, v, m, (h.gr g).set (by omega), At.new (by rw [h.bs.len]; omega) hx⟩⟩
theorem step9 (L : Lib P w K mg base T C cdW) (hr : Room 43 (XL P w K mg base f cdW A outer s H0 E).A) : StepOk GA (XL P w K mg base f cdW A outer s H0 E) (lst 9) (A8 T) (A8 T) := by
  obtain ⟨f1, d1, ds1, G1, C1⟩ := L.put_in.ex
  obtain ⟨f2, d2, ds2, G2, C2⟩ := L.lifted.ex
  obtain ⟨f3, d3, G3, C3⟩ := L.put_all.ex
  obtain ⟨f4, d4, ds4, G4, C4⟩ := L.low.ex
  have r3 := hr.mono (show 3 ≤ 43 by omega)
  have r20 := hr.mono (show 20 ≤ 43 by omega)
  have r41 := hr.mono (show 41 ≤ 43 by omega)
  refine step_if (T := T) (PW.pt (pw_or (pt_cmpR (op_neD (hu_of hr)) (pe_call G3 r41 rfl C3.m C3.kp C3.b .nil pass0 (pa_cons (pv 2) (pa_cons (pe_lst (pa_cons (pe_tup (pa_cons pe_str (pa_cons pe_str pa_nil))) (pa_cons (pv 3) pa_nil))) pa_nil)))
      (pe_call G1 r41 rfl C1.m C1.kp C1.b C1.v pass0 (pa_cons (pe_call G1 r41 rfl C1.m C1.kp C1.b C1.v pass0 (pa_cons (pv 2) (pa_cons (pe_call G2 r20 rfl C2.m C2.kp C2.b C2.v pass0 (pa_cons (pv 3) (pa_cons pe_int pa_nil))) pa_nil)))
    (pa_cons (pe_tup (pa_cons pe_str (pa_cons pe_str pa_nil))) pa_nil))) (nomark _))
    (pw_or1 (pt_cmpR op_gt (pe_call G4 r3 rfl C4.m C4.kp C4.b C4.v pass0 (pa_cons (pv 8) pa_nil)) pe_int (nomark _))))) (pss_one (ps_ret pe_bl)) ?_ A8.gr
  rintro c σ H ⟨t, v, m, h, d8⟩
  have hT := h.bs.tb
  have hdp := h.td.dp
  have hdv := h.vd.dp
  obtain ⟨f1, f2, f3, f4, f5⟩ := one_facts h
  have hct : cnt t ≤ 1093 := h.td.ct
  have hcv : cnt v ≤ 13 := h.vd.ct
  have hcc : cnt cC = 1 := rfl
  refine et_or (a := false) (b := false) (et_ne (d := enc (oneT t v)) (ed_is (ed_call (dd := []) (R := rPia 16) (r := enc (pf [cC, v] 0 t)) hT (eda_cons (ed_at h.a2) (eda_cons (ed_lst (eda_cons (ed_tup (eda_cons ed_str (eda_cons ed_str eda_nil))) (eda_cons (ed_at h.a3) eda_nil))) eda_nil)) (fun _ => .nil) ⟨t, [cC, v], rfl, by omega, by omega, fun u hu => ?_, rfl⟩) (congrArg enc (pf_two cC v t 0))) (ed_one h) (shaped_enc f3 (by omega)))
    (fun _ => et_test (ed_is (ed_gt (ed_low hT (ed_at d8) (by omega)) ed_int) (congrArg PyData.bool (decide_eq_false (by omega)))))
  simp at hu
  rcases hu with rfl | rfl
  · decide
  · omega
theorem step10 (L : Lib P w K mg base T C cdW) (hr : Room 43 (XL P w K mg base f cdW A outer s H0 E).A) : StepOk GA (XL P w K mg base f cdW A outer s H0 E) (lst 10) (A8 T) (A10 T) := by
  obtain ⟨f1, d1, G1, C1⟩ := L.names.ex
  have r3 := hr.mono (show 3 ≤ 43 by omega)
  refine step_asg (T := T) (i := 9) (ps_set (i := 9) scLaw.nd rfl (.inr rfl) (pe_call G1 r3 rfl C1.m C1.kp C1.b .nil pass0 (pa_cons (pv 2) pa_nil))) ?_
  rintro c σ H ⟨t, v, m, h, d8⟩
  have hct := h.td.ct
  rw [cmx6] at hct
  exact ⟨_, ed_call (dd := []) (R := rNames) h.bs.tb (eda_cons (ed_at h.a2) eda_nil) (fun _ => .nil) ⟨t, rfl, by omega, rfl⟩, fun x H' g hx => ⟨t, v, m, (h.gr g).set (by omega), At.new (by rw [h.bs.len]; omega) hx⟩⟩
theorem step11 (L : Lib P w K mg base T C cdW) (hr : Room 43 (XL P w K mg base f cdW A outer s H0 E).A) : StepOk GA (XL P w K mg base f cdW A outer s H0 E) (lst 11) (A10 T) (A10 T) := by
  obtain ⟨f1, d1, G1, C1⟩ := L.usesN.ex
  have r4 := hr.mono (show 4 ≤ 43 by omega)
  refine step_if (T := T) (PW.pt (pw_or (pt_cmpR (op_neD (hu_of hr)) (pe_lc (own := [("name", 18)]) (g := gName 18) rfl scLaw.nd (pi_str pe_str) (blkOk_by (N := NL) (sc := defScope sLaw) (by decide +kernel)) (fun _ _ _ _ _ => pg_name (i := 18) scLaw.nd rfl (Or.inl rfl))
      (fun _ _ _ _ _ => pts_one (pt_cmpR op_ne (pe_call G1 r4 rfl C1.m C1.kp C1.b .nil pass0 (pa_cons (pv 2) (pa_cons (pv 18) pa_nil))) (pe_cmpR (r := rIn K false) op_in_seq (pv 18) (pv 9) (by rfl)) (nomark _))) (fun _ _ _ _ _ => pv 18)) (pe_lst pa_nil) (nomark _))
    (pw_or1 (pt_cmpR op_ne (pe_callB call_lenD rfl L.zlen boot_len (pa_cons (pe_callTy (call_dictP rfl) rfl L.zdict PyProof.Rows.boot_dict (pa_cons (pe_lc (own := [("name", 18)]) (g := gName 18) (tt := tYes) rfl scLaw.nd (pi_tup (pv 9)) (blkOk_by (N := NL) (sc := defScope sLaw) (by decide +kernel)) (fun _ _ _ _ _ => pg_name (i := 18) scLaw.nd rfl (Or.inl rfl)) (fun _ _ _ _ _ => pts_nil)
      (fun _ _ _ _ _ => pe_tup (pa_cons (pv 18) (pa_cons pe_int pa_nil)))) pa_nil)) pa_nil)) (pe_callB call_len_seq rfl L.zlen boot_len (pa_cons (pv 9) pa_nil)) (nomark _))))) (pss_one (ps_ret pe_bl)) ?_ A10.gr
  rintro c σ H ⟨t, v, m, h, d9⟩
  have hT := h.bs.tb
  have hct := h.td.ct
  rw [cmx6] at hct
  have hlen := h.bs.len
  have hnl := nmT_len t
  refine et_or (a := false) (b := false) (et_ne (d := .list []) (ed_is (ed_lc (α := Nat) (L := ("abc" : Str).cps.toList) (f1 := fun c => .str ⟨#[c]⟩) (f2 := fun c => .str ⟨#[c]⟩) (b := fun _ => false) (g := gName 18) (vs := [18]) (wi := iStr (tC (.str "abc"))) (te := tVar 18)
      (ei_str (z := "abc") ed_str) (by decide) (fun _ _ z => by cases z) (fun k hk x H3 g3 hx => ⟨_, fun Q h => h, wipe_set1, ?_, fun z => by cases z⟩)) ?_) (ed_lst eda_nil) (by decide))
    (fun _ => et_test (ed_is (ed_neI (a := ((nmT t).length : Nat)) (b := ((nmT t).length : Nat)) (ed_lenDict (K := K) (L := nmT t) (nmT_nodup t) (ed_lcA (α := Str) (L := nmT t) (f1 := .str) (f2 := ndD) (g := gName 18) (vs := [18]) (wi := iTup K (tVar 9)) (te := tTup (tCons (tVar 18) (tCons (tC (.int 1)) tNil)))
      (ei_tup (ed_at d9)) (by omega) (fun _ _ => rfl) (fun n hn x H3 g3 hx => ⟨_, fun Q h => h, wipe_set1, ed_tup (eda_cons (ed_own (by rw [hlen]; omega) hx) (eda_cons ed_int eda_nil))⟩))) (ed_is (ed_lenT (ed_at d9)) (by rw [List.length_map]))) (by simp)))
  · have h2 := (h.a2.gr g3).blk (j := 18) (x := x) (by omega)
    have h9 := (d9.gr g3).blk (j := 18) (x := x) (by omega)
    exact et_test (ed_is (ed_neB (a := decide ((⟨#[k]⟩ : Str) ∈ nmT t)) (b := decide ((⟨#[k]⟩ : Str) ∈ nmT t)) (ed_call (dd := []) (R := rUsesN) (g3.2 hT) (eda_cons (ed_at h2) (eda_cons (ed_own (by rw [hlen]; omega) hx) eda_nil)) (fun _ => .nil) ⟨t, _, rfl, by omega, rfl⟩)
      (ed_inT (nmT t) (ed_own (by rw [hlen]; omega) hx) (ed_at h9))) (by simp))
  · simp
theorem wipe_two {σ : L2.St} {x y : V} : wipe (((wipe σ [19, 20]).set 19 (some x)).set 20 (some y)) [19, 20] = wipe σ [19, 20] := by
  show (((((σ.set 20 none).set 19 none).set 19 (some x)).set 20 (some y)).set 20 none).set 19 none = (σ.set 20 none).set 19 none
  rw [List.set_set, List.set_set, List.set_comm (some x) none (by decide), List.set_set, List.set_set]
theorem step12 (L : Lib P w K mg base T C cdW) (hr : Room 43 (XL P w K mg base f cdW A outer s H0 E).A) : StepOk GA (XL P w K mg base f cdW A outer s H0 E) (lst 12) (A10 T) (A1 T) := by
  obtain ⟨f1, d1, G1, C1⟩ := L.withp.ex
  obtain ⟨f2, d2, G2, C2⟩ := L.parts.ex
  obtain ⟨f3, d3, G3, C3⟩ := L.same.ex
  have r1 := hr.mono (show 1 ≤ 43 by omega)
  have r22 := hr.mono (show 22 ≤ 43 by omega)
  have key : StepOk GA (XL P w K mg base f cdW A outer s H0 E) (lst 12) (A1 T) (A1 T) := by
    refine step_if (T := T) (PW.pt (pw_or (pt_cmpR (op_neD (hu_of hr)) (pe_call G1 r1 rfl C1.m C1.kp C1.b .nil pass0 (pa_cons (pv 2) (pa_cons (pe_lc (own := [("part", 19), ("under", 20)]) (g := gTup K 2 (gCons (gName 19) (gCons (gName 20) gNil))) (tt := tYes) rfl scLaw.nd (pi_tup (pe_call G2 r1 rfl C2.m C2.kp C2.b .nil pass0 (pa_cons (pv 2) pa_nil))) (blkOk_by (N := NL) (sc := defScope sLaw) (by decide +kernel))
        (fun _ _ _ _ _ => pg_tup (by rfl) (pgs_cons (pg_name (i := 19) scLaw.nd rfl (.inl rfl)) (pgs_cons (pg_name (i := 20) scLaw.nd rfl (.inl rfl)) pgs_nil))) (fun _ _ _ _ _ => pts_nil) (fun _ _ _ _ _ => pv 19)) pa_nil))) (pv 2) (nomark _))
      (pw_or (pt_not (pt_val (pe_call G3 r22 rfl C3.m C3.kp C3.b .nil pass0 (pa_cons (pv 2) (pa_cons (pv 2) pa_nil)))))
      (pw_or1 (pt_val (pe_call G3 r22 rfl C3.m C3.kp C3.b .nil pass0 (pa_cons (pv 2) (pa_cons (pe_tup (pa_cons pe_str (pa_cons (pv 2) (pa_cons (pv 2) pa_nil)))) pa_nil)))))))) (pss_one (ps_ret pe_bl)) ?_ A1.gr
    rintro c σ H ⟨t, v, m, h⟩
    have hT := h.bs.tb
    have hdp := h.td.dp
    have hlen := h.bs.len
    have kl : (kidsT t 0).length ≤ 3 := by cases t <;> simp [kidsT]
    have hct' : cnt t ≤ 50000 := Nat.le_trans (show cnt t ≤ 1093 from h.td.ct) (by decide)
    refine et_or (a := false) (b := false) (et_ne (d := enc t) (ed_call (dd := []) (R := rWith) hT (eda_cons (ed_at h.a2) (eda_cons (ed_is (ed_lcA (α := Tm × Nat) (L := kidsT t 0) (f1 := encP) (f2 := fun p => enc p.1) (g := gTup K 2 (gCons (gName 19) (gCons (gName 20) gNil))) (vs := [19, 20]) (wi := iTup K (tCall (spF T rParts) [] E0 (tCons (tVar 2) tNil))) (te := tVar 19)
        (ei_tup (ed_call (dd := []) (R := rParts) hT (eda_cons (ed_at h.a2) eda_nil) (fun _ => .nil) ⟨enc t, rfl, node_enc t, by rw [pairs_enc]⟩)) (by omega) (fun _ _ => nl_enc _) (fun p hp x H3 g3 hx => ?_)) (show PyData.list ((kidsT t 0).map fun p => enc p.1) = .list (((kidsT t 0).map fun p => p.1).map enc) by rw [List.map_map]; rfl)) eda_nil)) (fun _ => .nil) ⟨t, _, t, rfl, wk_self t, rfl⟩) (ed_at h.a2) (shaped_enc h.td.ok (by omega)))
      (fun _ => et_or (a := false) (b := false) (et_is (et_not (et_B (ed_call (dd := []) (R := rSame 20) (r := .bool true) hT (eda_cons (ed_at h.a2) (eda_cons (ed_at h.a2) eda_nil)) (fun _ => .nil) ⟨t, t, rfl, by omega, h.td.ok, h.td.ok, by omega, by omega, hct', by rw [sm_refl h.td.ok]⟩))) rfl)
      (fun _ => et_B (ed_call (dd := []) (R := rSame 20) (r := .bool false) hT (eda_cons (ed_at h.a2) (eda_cons (ed_tup (eda_cons ed_str (eda_cons (ed_at h.a2) (eda_cons (ed_at h.a2) eda_nil)))) eda_nil)) (fun _ => .nil) ⟨t, .app t t, rfl, by omega, h.td.ok, ⟨h.td.ok, h.td.ok⟩, by omega, by simp only [dep]; omega, hct', by rw [sm_app_self]⟩)))
    cases hx with
    | @tup a xs _ ha hxs =>
    obtain ⟨y1, y2, rfl, h1, h2⟩ := dxA2 hxs
    refine ⟨((wipe σ [19, 20]).set 19 (some y1)).set 20 (some y2), fun Q hq => ⟨a, _, rfl, SqT.of ha, rfl, _, _, rfl, _, _, rfl, rfl, hq⟩, wipe_two, ed_var ?_ h1⟩
    rw [List.getElem?_set_ne (by decide), List.getElem?_set_self (by rw [wipe_length, hlen]; decide)]
  obtain ⟨tt, p, q⟩ := key
  exact ⟨tt, p, fun c D σ H ⟨t, v, m, h, _⟩ k => q c D σ H ⟨t, v, m, h⟩ k⟩
end
end K1
namespace K1
open PySem PySem.Spec PyProof.Rows L2
def hH : Tm := .leaf (.cst "h")
structure R13 (as : List Tm) : Prop where
  l : as.length ≤ 3
  t : ∀ a ∈ as, TD 2 a
abbrev A13 (T : Tbl) (c : GA) (σ : L2.St) (H : Hp) : Prop := ∃ t v m as, LS T c σ H t v m ∧ R13 as ∧ At σ H 10 (.list (as.map enc))
abbrev A14 (T : Tbl) (c : GA) (σ : L2.St) (H : Hp) : Prop := ∃ t v m as, LS T c σ H t v m ∧ R13 as ∧ At σ H 10 (.list (as.map enc)) ∧ At σ H 16 (enc hH)
theorem A14.gr {T : Tbl} : ∀ (c : GA) (σ : L2.St) (H H' : Hp), A14 T c σ H → Gr T H H' → A14 T c σ H' := fun c σ H H' ⟨t, v, m, as, h, r, n, n2⟩ g => ⟨t, v, m, as, h.gr g, r, n.gr g, n2.gr g⟩
structure R16 (rows : List (Str × Tm)) : Prop where
  l : rows.length ≤ 3
  t : ∀ a ∈ rows, TD 2 a.2 ∧ (PyData.str a.1).canLay0 = true
abbrev A16 (T : Tbl) (c : GA) (σ : L2.St) (H : Hp) : Prop := ∃ t v m rows, LS T c σ H t v m ∧ R16 rows ∧ At σ H 11 (.list (rows.map encR)) ∧ At σ H 16 (enc hH)
theorem A16.gr {T : Tbl} : ∀ (c : GA) (σ : L2.St) (H H' : Hp), A16 T c σ H → Gr T H H' → A16 T c σ H' := fun c σ H H' ⟨t, v, m, as, h, r, n, n2⟩ g => ⟨t, v, m, as, h.gr g, r, n.gr g, n2.gr g⟩
abbrev A18 (T : Tbl) (c : GA) (σ : L2.St) (H : Hp) : Prop := ∃ r : Nat, Bs T c σ H ∧ r < 130 ∧ At σ H 12 (.int r) ∧ At σ H 15 (enc (nest 0))
abbrev A19 (T : Tbl) (c : GA) (σ : L2.St) (H : Hp) : Prop := ∃ r : Nat, Bs T c σ H ∧ r < 130 ∧ At σ H 12 (.int r) ∧ At σ H 15 (enc (nest r))
theorem A19.gr {T : Tbl} : ∀ (c : GA) (σ : L2.St) (H H' : Hp), A19 T c σ H → Gr T H H' → A19 T c σ H' := fun c σ H H' ⟨r, h, hr, n, n2⟩ g => ⟨r, h.gr g, hr, n.gr g, n2.gr g⟩
theorem rt_all {n : Nat} : ∀ {ds : List PyData}, (∀ d ∈ ds, RT n d) → ∃ as : List Tm, ds = as.map enc ∧ ∀ a ∈ as, TD n a
  | [], _ => ⟨[], rfl, fun a h => by cases h⟩
  | d :: ds, h => by
    obtain ⟨t, ht, rfl⟩ := h d List.mem_cons_self
    obtain ⟨as, rfl, ha⟩ := rt_all (ds := ds) fun e he => h e (List.mem_cons_of_mem _ he)
    refine ⟨t :: as, rfl, fun a hm => ?_⟩
    rcases List.mem_cons.mp hm with rfl | hm
    · exact ht
    · exact ha a hm
def xn (k : Nat) : Str := ("x" : Str) ++ num k
theorem xn_lay (k : Nat) : (PyData.str (xn k)).canLay0 = true := lay_append (by decide +kernel) (lay_num k)
def RR (d : PyData) : Prop := ∃ x t, (PyData.str x).canLay0 = true ∧ TD 2 t ∧ d = encR (x, t)
theorem rr_all : ∀ {ds : List PyData}, (∀ d ∈ ds, RR d) → ∃ as : List (Str × Tm), ds = as.map encR ∧ ∀ a ∈ as, TD 2 a.2 ∧ (PyData.str a.1).canLay0 = true
  | [], _ => ⟨[], rfl, fun a h => by cases h⟩
  | d :: ds, h => by
    obtain ⟨x, t, hx, ht, rfl⟩ := h d List.mem_cons_self
    obtain ⟨as, rfl, ha⟩ := rr_all (ds := ds) fun e he => h e (List.mem_cons_of_mem _ he)
    refine ⟨(x, t) :: as, rfl, fun a hm => ?_⟩
    rcases List.mem_cons.mp hm with rfl | hm
    · exact ⟨ht, hx⟩
    · exact ha a hm
theorem layL {ds : List PyData} (h : ∀ d ∈ ds, d.canLay0 = true) : (PyData.list ds).canLay0 = true := by
  simp only [PyData.canLay0]
  exact layAll_of h
theorem depL {ds : List PyData} {n : Nat} (h : ∀ d ∈ ds, d.depth ≤ n) : (PyData.list ds).depth ≤ n + 1 := by
  have e : (PyData.list ds).depth = PyData.depthAll ds + 1 := by simp only [PyData.depth]
  have := depthAll_le h
  omega
theorem hH_ok : TmOk hH := by show (PyData.str "h").canLay0 = true; decide +kernel
theorem shaped_args {as : List Tm} (r : R13 as) : SeqAt.shaped (.tuple [enc hH, .list (as.map enc)]) = true := by
  refine shaped_of (layT fun d hd => ?_) (Nat.le_trans (depT (n := 10) fun d hd => ?_) (by decide))
  · simp only [List.mem_cons, List.not_mem_nil, or_false] at hd
    rcases hd with rfl | rfl
    · exact lay_enc hH_ok
    · refine layL fun d hd => ?_
      obtain ⟨a, ha, rfl⟩ := List.mem_map.mp hd
      exact lay_enc (r.t a ha).ok
  · simp only [List.mem_cons, List.not_mem_nil, or_false] at hd
    rcases hd with rfl | rfl
    · rw [depth_enc]; decide
    · refine Nat.le_trans (depL (n := 5) fun d hd => ?_) (by decide)
      obtain ⟨a, ha, rfl⟩ := List.mem_map.mp hd
      rw [depth_enc]
      have := (r.t a ha).dp
      omega
theorem shaped_rows {rows : List (Str × Tm)} (r : R16 rows) : SeqAt.shaped (.tuple [.list (rows.map encR), enc hH]) = true := by
  refine shaped_of (layT fun d hd => ?_) (Nat.le_trans (depT (n := 10) fun d hd => ?_) (by decide))
  · simp only [List.mem_cons, List.not_mem_nil, or_false] at hd
    rcases hd with rfl | rfl
    · refine layL fun d hd => ?_
      obtain ⟨a, ha, rfl⟩ := List.mem_map.mp hd
      refine layT fun e he => ?_
      simp only [List.mem_cons, List.not_mem_nil, or_false] at he
      rcases he with rfl | rfl
      · exact (r.t a ha).2
      · exact lay_enc (r.t a ha).1.ok
    · exact lay_enc hH_ok
  · simp only [List.mem_cons, List.not_mem_nil, or_false] at hd
    rcases hd with rfl | rfl
    · refine Nat.le_trans (depL (n := 6) fun d hd => ?_) (by decide)
      obtain ⟨a, ha, rfl⟩ := List.mem_map.mp hd
      refine depT (n := 5) fun e he => ?_
      simp only [List.mem_cons, List.not_mem_nil, or_false] at he
      rcases he with rfl | rfl
      · exact Nat.zero_le _
      · rw [depth_enc]
        have := (r.t a ha).1.dp
        omega
    · rw [depth_enc]; decide
theorem scTold : FnScope ["what"] ["what"] (defScope sTold) := ⟨rfl, rfl, rfl, by decide +kernel, rfl, by decide +kernel, by decide +kernel⟩
section
variable {P : Program} {w : World} {K : PySem.W.Frag} {mg : Str → Option Value} {base : Heap} {T : Tbl} {C f cdW : Addr} {A : Around} {outer : List Env} {s : Shared} {H0 : Hp} {E : XK}
theorem roll_ht {σ : L2.St} {H : Hp} {l : Addr} {m : Nat} (hd : IsDice H l) (hσ : σ[1]? = some (some (.ref l))) (hm : 1 ≤ m ∧ m ≤ 1000) : ∀ H1, Mu T l H H1 → ∀ Q : List V → Hp → Prop, (∀ (n : Nat) H2, n ≤ m - 1 → Mu T l H1 H2 → Q [.int n] H2) → tCons (tCall (spRoll T) [] E0 (tCons (tVar 1) (tCons (tC (.int m)) tNil))) tNil σ H1 Q := fun H1 m1 Q q =>
  md_roll (T := T) (E := E0) hd hσ hm H1 m1 _ fun v H2 d m2 ⟨r, hr, e⟩ hv => by
    subst e
    cases hv
    exact q r H2 (by omega) m2
theorem blk1 {σ : L2.St} {x : V} {l : Addr} (h : σ[1]? = some (some (.ref l))) : ((wipe σ [17]).set 17 (some x))[1]? = some (some (.ref l)) := by
  show ((σ.set 17 none).set 17 (some x))[1]? = _
  rw [List.getElem?_set_ne (by decide), List.getElem?_set_ne (by decide)]
  exact h
theorem step13 (L : Lib P w K mg base T C cdW) (hr : Room 43 (XL P w K mg base f cdW A outer s H0 E).A) : StepOk GA (XL P w K mg base f cdW A outer s H0 E) (lst 13) (A1 T) (A13 T) := by
  obtain ⟨ft, ftd, GT, CT⟩ := L.term.ex
  obtain ⟨fr, frd, GR, CR⟩ := L.roll.ex
  have hr8 := hr.mono (show 8 ≤ 43 by omega)
  have hr1 := hr.mono (show 1 ≤ 43 by omega)
  refine step_mu (T := T) (i := 10) (ps_setLc (i := 10) (own := [("k", 17)]) (g := gName 17) (tt := tYes) rfl scLaw.nd rfl rfl (sw_true rfl rfl rfl (by decide +kernel)) (pi_range1 rfl L.zrange (pa_cons (pe_call GR hr1 rfl CR.m CR.kp CR.b .nil pass0 (pa_cons (pv 1) (pa_cons pe_int pa_nil))) pa_nil))
    (blkOk_by (N := NL) (sc := defScope sLaw) (by decide +kernel)) (fun _ _ _ _ _ => pg_name (i := 17) scLaw.nd rfl (Or.inl rfl)) (fun _ _ _ _ _ => pts_nil) (fun _ _ _ _ _ => pe_call GT hr8 rfl CT.m CT.kp CT.b .nil pass0 (pa_cons (pv 1) (pa_cons pe_int pa_nil)))) ?_
  rintro c σ H ⟨t, v, m, h⟩
  have b := h.bs
  refine ⟨c.2, _, md_range (N := 3) (Pn := fun n => n ≤ 4 - 1) (Res := fun _ => RT 2) (by decide) (fun n h => h) b.isd (fun _ _ => RT.nl) (roll_ht (m := 4) b.isd b.dice (by omega)) (fun k H1 hk m1 => md_termC (by omega) (m1.2.2 b.isd) (m1.2.1 b.tb) (blk1 b.dice) (md_imp md_int fun d e => ⟨2, by omega, e⟩)), fun x H' d mu ⟨ds, e, hl, hds⟩ hx => ?_⟩
  subst e
  obtain ⟨as, rfl, has⟩ := rt_all (n := 2) (ds := ds) fun d hd => by
    obtain ⟨j, hj⟩ := List.getElem?_of_mem hd
    exact hds j d hj
  rw [List.length_map] at hl
  exact ⟨t, v, m, as, (h.mu mu).set (by omega), ⟨hl, has⟩, At.new (by rw [b.len]; omega) hx⟩
theorem step14 : StepOk GA (XL P w K mg base f cdW A outer s H0 E) (lst 14) (A13 T) (A14 T) := by
  refine step_asg (T := T) (i := 16) (ps_set (i := 16) scLaw.nd rfl (.inr rfl) (pe_tup (pa_cons pe_str (pa_cons pe_str pa_nil)))) ?_
  rintro c σ H ⟨t, v, m, as, h, r, n⟩
  exact ⟨_, ed_tup (eda_cons ed_str (eda_cons ed_str eda_nil)), fun x H' g hx => ⟨t, v, m, as, (h.gr g).set (by omega), r, (n.gr g).ne (by omega), At.new (by rw [h.bs.len]; omega) hx⟩⟩
theorem step15 (L : Lib P w K mg base T C cdW) (hr : Room 43 (XL P w K mg base f cdW A outer s H0 E).A) : StepOk GA (XL P w K mg base f cdW A outer s H0 E) (lst 15) (A14 T) (A14 T) := by
  obtain ⟨f1, d1, G1, C1⟩ := L.spine.ex
  obtain ⟨f2, d2, G2, C2⟩ := L.apply.ex
  obtain ⟨f3, d3, G3, C3⟩ := L.arrow.ex
  obtain ⟨f4, d4, ds4, G4, C4⟩ := L.lifted.ex
  have r1 := hr.mono (show 1 ≤ 43 by omega)
  have r20 := hr.mono (show 20 ≤ 43 by omega)
  have r21 := hr.mono (show 21 ≤ 43 by omega)
  refine step_if (T := T) (PW.pt (pw_or (pt_cmpR (op_neD (hu_of hr)) (pe_call G1 r1 rfl C1.m C1.kp C1.b .nil pass0 (pa_cons (pe_call G2 r1 rfl C2.m C2.kp C2.b .nil pass0 (pa_cons (pv 16) (pa_cons (pv 10) pa_nil))) pa_nil)) (pe_tup (pa_cons (pv 16) (pa_cons (pv 10) pa_nil))) (nomark _))
    (pw_or1 (pt_cmpR (op_neD (hu_of hr)) (pe_call G3 r21 rfl C3.m C3.kp C3.b .nil pass0 (pa_cons (pv 2) (pa_cons (pv 3) pa_nil))) (pe_tup (pa_cons pe_str (pa_cons pe_str (pa_cons (pv 2) (pa_cons (pe_call G4 r20 rfl C4.m C4.kp C4.b C4.v pass0 (pa_cons (pv 3) (pa_cons pe_int pa_nil))) pa_nil))))) (nomark _))))) (pss_one (ps_ret pe_bl)) ?_ A14.gr
  rintro c σ H ⟨t, v, m, as, h, r, a10, a16⟩
  have hT := h.bs.tb
  have hdp := h.td.dp
  have hdv := h.vd.dp
  have hcnt : cnt (as.foldl Tm.app hH) ≤ 1000 := by
    rw [cnt_fold]
    have key : ∀ l : List Tm, (∀ a ∈ l, TD 2 a) → (l.map fun a => cnt a + 1).sum ≤ 14 * l.length := by
      intro l
      induction l with
      | nil => intro _; simp
      | cons a l ih =>
        intro h
        have h1 := (h a List.mem_cons_self).ct
        rw [cmx2] at h1
        have h2 := ih fun b hb => h b (List.mem_cons_of_mem _ hb)
        rw [List.map_cons, List.sum_cons, List.length_cons]
        omega
    have := key as r.t
    have := r.l
    have : cnt hH = 1 := rfl
    omega
  have hcv' : cnt v ≤ 13 := h.vd.ct
  refine et_or (a := false) (b := false) (et_ne (d := .tuple [enc hH, .list (as.map enc)]) (ed_is (ed_call (dd := []) (R := rSpine) hT (eda_cons (ed_call (dd := []) (R := rApply) hT (eda_cons (ed_at a16) (eda_cons (ed_at a10) eda_nil)) (fun _ => .nil) ⟨hH, as, rfl, rfl⟩) eda_nil) (fun _ => .nil) ⟨_, rfl, by omega, rfl⟩) ?_) (ed_tup (eda_cons (ed_at a16) (eda_cons (ed_at a10) eda_nil))) (shaped_args r))
    (fun _ => et_ne (d := enc (.bind true "_" t (lf 1 0 v))) (ed_call (dd := []) (R := rArrow 16) hT (eda_cons (ed_at h.a2) (eda_cons (ed_at h.a3) eda_nil)) (fun _ => .nil) ⟨t, v, rfl, by omega, by have : cnt v ≤ 13 := h.vd.ct; omega, rfl⟩) (ed_tup (eda_cons ed_str (eda_cons ed_str (eda_cons (ed_at h.a2) (eda_cons (ed_lift (m := 1) hT (ed_at h.a3) ed_int (by omega)) eda_nil))))) (shaped_enc ⟨by decide +kernel, h.td.ok, TmOk_lf h.vd.ok 1 0⟩ (by simp only [dep]; rw [dep_lf]; omega)))
  rw [hd_fold, arg_fold]
  rfl
theorem step16 (L : Lib P w K mg base T C cdW) (hr : Room 43 (XL P w K mg base f cdW A outer s H0 E).A) : StepOk GA (XL P w K mg base f cdW A outer s H0 E) (lst 16) (A14 T) (A16 T) := by
  obtain ⟨ft, ftd, GT, CT⟩ := L.term.ex
  obtain ⟨fr, frd, GR, CR⟩ := L.roll.ex
  have hr8 := hr.mono (show 8 ≤ 43 by omega)
  have hr1 := hr.mono (show 1 ≤ 43 by omega)
  refine step_mu (T := T) (i := 11) (ps_setLc (i := 11) (own := [("k", 17)]) (g := gName 17) (tt := tYes) rfl scLaw.nd rfl rfl (sw_true rfl rfl rfl (by decide +kernel)) (pi_range1 rfl L.zrange (pa_cons (pe_call GR hr1 rfl CR.m CR.kp CR.b .nil pass0 (pa_cons (pv 1) (pa_cons pe_int pa_nil))) pa_nil))
    (blkOk_by (N := NL) (sc := defScope sLaw) (by decide +kernel)) (fun _ _ _ _ _ => pg_name (i := 17) scLaw.nd rfl (Or.inl rfl)) (fun _ _ _ _ _ => pts_nil) (fun _ _ _ _ _ => pe_tup (pa_cons (pe_op op_add_str pe_str (pe_callTy call_str_int rfl L.zstr PyProof.Rows.boot_str (pa_cons (pv 17) pa_nil))) (pa_cons (pe_call GT hr8 rfl CT.m CT.kp CT.b .nil pass0 (pa_cons (pv 1) (pa_cons pe_int pa_nil))) pa_nil)))) ?_
  rintro c σ H ⟨t, v, m, as, h, r, a10, a16⟩
  have b := h.bs
  refine ⟨c.2, _, md_range (N := 3) (Pn := fun n => n ≤ 4 - 1) (Res := fun _ => RR) (by decide) (fun n h => h) b.isd (fun _ d ⟨x, t, _, _, e⟩ => by rw [e]; exact nl_encR _) (roll_ht (m := 4) b.isd b.dice (by omega)) (fun k H1 hk m1 => ?_), fun x H' d mu ⟨ds, e, hl, hds⟩ hx => ?_⟩
  · have hn : ED T (tOp (fun x y H Q => ∃ i j, x = .str i ∧ y = .str j ∧ i.length + j.length ≤ sizeLine ∧ Q (.str (i ++ j)) H) (tC (.str "x")) (tCB (fun xs H Q => ∃ i : Int, xs = [.int i] ∧ i.natAbs.log2 < 1920 ∧ Q (.str (toString i)) H) (tCons (tVar 17) tNil))) ((wipe σ [17]).set 17 (some (.int (k : Nat)))) H1 (.str (xn k)) ∧ True := ⟨ed_addS (a := "x") (b := num k) ed_str (ed_strI (i := (k : Int)) (ed_own (by rw [b.len]; omega) (.int _)) (log2_small (by omega))) (by have := num_length (show k < 1000000 by omega); show 1 + _ ≤ _; omega), trivial⟩
    have hn2 : ∀ H2, Mu T c.2 H1 H2 → ED T (tOp (fun x y H Q => ∃ i j, x = .str i ∧ y = .str j ∧ i.length + j.length ≤ sizeLine ∧ Q (.str (i ++ j)) H) (tC (.str "x")) (tCB (fun xs H Q => ∃ i : Int, xs = [.int i] ∧ i.natAbs.log2 < 1920 ∧ Q (.str (toString i)) H) (tCons (tVar 17) tNil))) ((wipe σ [17]).set 17 (some (.int (k : Nat)))) H2 (.str (xn k)) := fun H2 _ => ed_addS (a := "x") (b := num k) ed_str (ed_strI (i := (k : Int)) (ed_own (by rw [b.len]; omega) (.int _)) (log2_small (by omega))) (by have := num_length (show k < 1000000 by omega); show 1 + _ ≤ _; omega)
    refine md_imp (md_tup (mda_cons (m1.2.2 b.isd) (md_of_ed hn2) (fun d e => by rw [e]; rfl) (mda_cons (m1.2.2 b.isd) (md_termC (n := 2) (by omega) (m1.2.2 b.isd) (m1.2.1 b.tb) (blk1 b.dice) (md_imp md_int fun d e => ⟨2, by omega, e⟩)) (fun _ => RT.nl) mda_nil)) (fun ds h => by obtain ⟨_, _, rfl, _, _, _, rfl, _, rfl⟩ := h; simp)) (fun d h => ?_)
    obtain ⟨ds, rfl, _, _, rfl, rfl, _, _, rfl, ⟨u, hu, rfl⟩, rfl⟩ := h
    exact ⟨xn k, u, xn_lay k, hu, rfl⟩
  · subst e
    obtain ⟨rows, rfl, has⟩ := rr_all (ds := ds) fun d hd => by
      obtain ⟨j, hj⟩ := List.getElem?_of_mem hd
      exact hds j d hj
    rw [List.length_map] at hl
    exact ⟨t, v, m, rows, (h.mu mu).set (by omega), ⟨hl, has⟩, At.new (by rw [b.len]; omega) hx, (a16.mu mu b.isd (nl_enc _)).ne (by omega)⟩
end
end K1
namespace K1
open PySem PySem.Spec PyProof.Rows L2
theorem hmW {T : Tbl} : (T.aW, qW) ∈ T.list := by simp [Tbl.list]
section
variable {P : Program} {w : World} {K : PySem.W.Frag} {mg : Str → Option Value} {base : Heap} {T : Tbl} {C f cdW : Addr} {A : Around} {outer : List Env} {s : Shared} {H0 : Hp} {E : XK}
theorem qual_W : (XL P w K mg base f cdW A outer s H0 E).env.qual ++ "<lambda>" = qW := by
  show (("law" : Str) ++ ".<locals>.") ++ "<lambda>" = qW
  decide +kernel
theorem step17 (L : Lib P w K mg base T C cdW) (hr : Room 43 (XL P w K mg base f cdW A outer s H0 E).A) : StepOk GA (XL P w K mg base f cdW A outer s H0 E) (lst 17) (A16 T) (A16 T) := by
  obtain ⟨f1, d1, G1, C1⟩ := L.split.ex
  obtain ⟨f2, d2, G2, C2⟩ := L.binders.ex
  obtain ⟨ft, ftd, FT, mT, kT, bT⟩ := L.told
  obtain ⟨oc, od, kV, doc, pm, an, cdv, ct, osl, rfl, lk, hcd⟩ := FT.ex
  have r1 := hr.mono (show 1 ≤ 43 by omega)
  have r3 := hr.mono (show 1 + 2 ≤ 43 by omega)
  refine step_if (T := T) (PW.pt (pw_or (pt_cmpR (op_neD (hu_of hr)) (pe_call G1 r1 rfl C1.m C1.kp C1.b .nil passL (pa_cons (pe_call G2 r1 rfl C2.m C2.kp C2.b .nil pass0 (pa_cons pe_str (pa_cons (pv 11) (pa_cons (pv 16) pa_nil)))) (pa_cons (pe_callB call_len_seq rfl L.zlen boot_len (pa_cons (pv 11) pa_nil)) pa_nil))) (pe_tup (pa_cons (pv 11) (pa_cons (pv 16) pa_nil))) (nomark _))
    (pw_or1 (pt_cmpR (op_neD (hu_of hr)) (LamX.pe_lamcall (T := T.list) (TT := LamX.TTold K C teW) rfl mT kT lk hcd bT scTold rfl (.inl rfl) (LamX.told_gives rfl L.te (by decide) (fun _ => rfl)) L.tb rfl (qual_W ▸ hmW) (by rw [qual_W]; exact tbl_hu hmW) r3 (LamX.lamS_by (sc := defScope sLaw) (by decide +kernel)) rfl (fun _ _ _ _ _ => rfl)
      (fun A outer s H E f c' hr2 => pe_call G1 hr2 rfl C1.m C1.kp C1.b .nil (passes_call (takes_of rfl rfl rfl rfl) (fun _ _ _ _ h => h)) (pa_cons (pv 16) (pa_cons pe_int pa_nil)))) pe_str (nomark _))))) (pss_one (ps_ret pe_bl)) ?_ A16.gr
  rintro c σ H ⟨t, v, m, rows, h, r, a11, a16⟩
  have hT := h.bs.tb
  have hl := r.l
  refine et_or (a := false) (b := false) (et_ne (d := .tuple [.list (rows.map encR), enc hH]) (ed_splC (t := mkB true rows hH) (m := rows.length) hT (ed_call (dd := []) (R := rBind) hT (eda_cons ed_str (eda_cons (ed_at a11) (eda_cons (ed_at a16) eda_nil))) (fun _ => .nil) ⟨true, rows, hH, rfl, rfl⟩) (ed_is (ed_lenL (ed_at a11)) (by rw [List.length_map])) (by omega) (spl_mkB rows hH)) (ed_tup (eda_cons (ed_at a11) (eda_cons (ed_at a16) eda_nil))) (shaped_rows r))
    (fun _ => et_ne (d := .str teW) (ed_spl (t := hH) (m := 1) L.exm hT a16 (by omega) rfl) ed_str (by decide +kernel))
end
end K1
namespace K1
open PySem PySem.Spec PyProof.Rows L2
section
variable {P : Program} {w : World} {K : PySem.W.Frag} {mg : Str → Option Value} {base : Heap} {T : Tbl} {C f cdW : Addr} {A : Around} {outer : List Env} {s : Shared} {H0 : Hp} {E : XK}
theorem step18 (L : Lib P w K mg base T C cdW) (hr : Room 43 (XL P w K mg base f cdW A outer s H0 E).A) : StepOk GA (XL P w K mg base f cdW A outer s H0 E) (lst 18) (A16 T) (A18 T) := by
  obtain ⟨fr, frd, GR, CR⟩ := L.roll.ex
  have hr1 := hr.mono (show 1 ≤ 43 by omega)
  refine ⟨_, ps_asg (pe_tup (pa_cons (pe_tup (pa_cons pe_str (pa_cons pe_int pa_nil))) (pa_cons (pe_call GR hr1 rfl CR.m CR.kp CR.b .nil pass0 (pa_cons (pv 1) (pa_cons pe_int pa_nil))) pa_nil)))
    (pg_tup (by rfl) (pgs_cons (pg_name (i := 15) scLaw.nd rfl (.inr rfl)) (pgs_cons (pg_name (i := 12) scLaw.nd rfl (.inl rfl)) pgs_nil))), ?_⟩
  rintro c D σ H ⟨t, v, m, rows, h, r, a11, a16⟩ q
  have b := h.bs
  have e1 : MD T c.2 (tTup (tCons (tC (.str "sort")) (tCons (tC (.int 0)) tNil))) σ H (· = enc (nest 0)) := md_of_ed fun H1 _ => ed_tup (eda_cons ed_str (eda_cons ed_int eda_nil))
  have e2 := md_roll (T := T) (E := E0) (m := 130) b.isd b.dice (by omega)
  refine (md_tup (mda_cons b.isd e1 (fun d e => by rw [e]; exact nl_enc _) (mda_cons b.isd e2 (fun d ⟨r, _, h⟩ => by rw [h]; rfl) mda_nil)) (fun ds h => by obtain ⟨_, _, rfl, _, _, _, rfl, _, rfl⟩ := h; simp)) H Mu.refl _ fun x H1 d mu hres hx => ?_
  obtain ⟨ds, rfl, d1, _, rfl, rfl, d2, _, rfl, ⟨k, hk, rfl⟩, rfl⟩ := hres
  cases hx with
  | @tup a xs _ ha hxs =>
  obtain ⟨y1, y2, rfl, h1, h2⟩ := dxA2 hxs
  refine ⟨a, _, rfl, SqT.of ha, rfl, _, _, rfl, _, _, rfl, rfl, q _ _ ⟨k, ?_, hk, ?_, ?_⟩⟩
  · exact ((b.mu mu).set (i := 15) (by omega)).set (i := 12) (by omega)
  · exact At.new (by rw [List.length_set, b.len]; omega) h2
  · exact (At.new (by rw [b.len]; omega) h1).ne (by omega)
theorem step19 (L : Lib P w K mg base T C cdW) : StepOk GA (XL P w K mg base f cdW A outer s H0 E) (lst 19) (A18 T) (A19 T) := by
  refine ⟨_, ps_for PassesOwn.never rfl (pi_range1 rfl L.zrange (pa_cons (pv 12) pa_nil)) (pg_name (i := 13) scLaw.nd rfl (.inl rfl))
    (pss_one (ps_set (i := 15) scLaw.nd rfl (.inr rfl) (pe_tup (pa_cons pe_str (pa_cons (pv 15) (pa_cons (pe_tup (pa_cons pe_str (pa_cons pe_int pa_nil))) pa_nil)))))), ?_⟩
  rintro c D σ H ⟨r, b, hr, a12, a15⟩ q
  obtain ⟨v, hv, hd⟩ := a12
  cases hd
  refine ⟨_, hv, (r : Int), rfl, by omega, by omega, for_range (lo := 0) (n := r) (fun i σ' H' => Bs T c σ' H' ∧ At σ' H' 12 (.int (r : Nat)) ∧ At σ' H' 15 (enc (nest i))) ⟨b, ⟨_, hv, .int _⟩, a15⟩ ?_ ?_⟩
  · rintro i σ' H' hi ⟨b', h12, h15⟩
    have b2 := b'.set (i := 13) (x := .int ((0 : Int) + i)) (by omega)
    have h12' := h12.ne (j := 13) (x := .int ((0 : Int) + i)) (by omega)
    have h15' := h15.ne (j := 13) (x := .int ((0 : Int) + i)) (by omega)
    refine s_set (T := T) (i := 15) (d := enc (nest (i + 1))) (ed_tup (eda_cons ed_str (eda_cons (ed_at h15') (eda_cons (ed_tup (eda_cons ed_str (eda_cons ed_int eda_nil))) eda_nil)))) fun x H1 g hx => ?_
    exact ⟨(b2.gr g).set (by omega), (h12'.gr g).ne (by omega), At.new (by rw [b2.len]; omega) hx⟩
  · rintro σ' H' ⟨b', h12, h15⟩
    exact q σ' H' ⟨r, b', hr, h12, h15⟩
theorem step20 (L : Lib P w K mg base T C cdW) (hr : Room 43 (XL P w K mg base f cdW A outer s H0 E).A) : StepOk GA (XL P w K mg base f cdW A outer s H0 E) (lst 20) (A19 T) (A19 T) := by
  obtain ⟨f1, d1, G1, C1⟩ := L.chk.ex
  obtain ⟨ft, ftd, FT, mT, kT, bT⟩ := L.told
  obtain ⟨oc, od, kV, doc, pm, an, cdv, ct, osl, rfl, lk, hcd⟩ := FT.ex
  have r5 := hr.mono (show 4 + 2 ≤ 43 by omega)
  refine step_if (T := T) (pt_cmpR op_ne (pe_cmpR (op_eqT (hu_of hr)) (LamX.pe_lamcall (T := T.list) (TT := LamX.TTold K C teW) rfl mT kT lk hcd bT scTold rfl (.inl rfl) (LamX.told_gives rfl L.te (by decide) (fun _ => rfl)) L.tb rfl (qual_W ▸ hmW) (by rw [qual_W]; exact tbl_hu hmW) r5 (LamX.lamS_by (sc := defScope sLaw) (by decide +kernel)) rfl (fun _ _ _ _ _ => rfl)
      (fun A outer s H E f c' hr2 => pe_call G1 hr2 rfl C1.m C1.kp C1.b .nil (passes_call (takes_of rfl rfl rfl rfl) (fun _ _ _ _ h => h)) (pa_cons (pv 15) pa_nil))) pe_str (nomark _)) (pe_cmpR op_gt (pv 12) pe_int (nomark _)) (by rfl)) (pss_one (ps_ret pe_bl)) ?_ A19.gr
  rintro c σ H ⟨r, b, hr, a12, a15⟩
  have hT := b.tb
  have hln : (enc (nest r)).canLay0 = true := lay_enc (by
    have : ∀ n, TmOk (nest n) := fun n => by
      induction n with
      | zero => exact True.intro
      | succ n ih => exact ⟨ih, True.intro⟩
    exact this r)
  refine et_test (ed_is (ed_neB (a := decide ((99 : Int) < (r : Nat))) (b := decide ((99 : Int) < (r : Nat))) (ed_is (ed_eqT (e := .str teW) (ed_chk L.exm hT a15 (hn_enc _)) ed_str ?_ (by decide +kernel) ?_) (congrArg PyData.bool ?_)) (ed_gt (ed_at a12) ed_int)) (by simp))
  · split
    · exact hln
    · decide +kernel
  · exact Nat.le_trans (Nat.min_le_right _ _) (Nat.zero_le _)
  · rw [chk_nest r (by omega)]
    by_cases h : r ≤ 99
    · rw [decide_eq_true h, if_pos rfl, eqv_str _ _ (fun b e => by cases r <;> cases e)]
      rw [decide_eq_false (by omega)]
      cases r <;> rfl
    · rw [decide_eq_false h, if_neg Bool.false_ne_true, decide_eq_true (by omega)]
      decide +kernel
theorem lb_eq : lb = [lst 0, lst 1, lst 2, lst 3, lst 4, lst 5, lst 6, lst 7, lst 8, lst 9, lst 10, lst 11, lst 12, lst 13, lst 14, lst 15, lst 16, lst 17, lst 18, lst 19, lst 20] := rfl
theorem body (L : Lib P w K mg base T C cdW) (hr : Room 43 (XL P w K mg base f cdW A outer s H0 E).A) : StepsOk GA (XL P w K mg base f cdW A outer s H0 E) lb (Bs T) (Bs T) := by
  rw [lb_eq]
  exact steps_cons (step0 L hr) (steps_cons step1 (steps_cons (step2 L hr) (steps_cons (step3 L hr) (steps_cons (step4 L hr) (steps_cons (step5 L hr) (steps_cons (step6 L hr) (steps_cons (step7 L hr) (steps_cons (step8 L hr) (steps_cons (step9 L hr) (steps_cons (step10 L hr)
    (steps_cons (step11 L hr) (steps_cons (step12 L hr) (steps_cons (step13 L hr) (steps_cons step14 (steps_cons (step15 L hr) (steps_cons (step16 L hr) (steps_cons (step17 L hr) (steps_cons (step18 L hr) (steps_cons (step19 L) (steps_cons (step20 L hr) (steps_nil fun c σ H ⟨r, b, _⟩ => b)))))))))))))))))))))
end
end K1
namespace K1
open PySem PySem.Spec PyProof.Rows L2
section
variable {T : Tbl} {K : PySem.W.Frag} {σ : L2.St} {H H' : Hp} {te ta tb : TE}
theorem ed_neg {i : Int} (h : ED T te σ H (.int i)) : ED T (tUn (rU fun i => .int (-i)) te) σ H (.int (-i)) := fun H1 g Q q =>
  h H1 g _ fun v H2 g2 hv => by cases hv; exact ⟨i, rfl, q _ H2 g2 (.int _)⟩
theorem At.own {x : V} {d : PyData} {j : Nat} (hl : j < σ.length) (h : Dx H x d) : At ((wipe σ [j]).set j (some x)) H j d := ⟨x, by
  show ((σ.set j none).set j (some x))[j]? = _
  rw [List.getElem?_set_self (by rw [List.length_set]; exact hl)], h⟩
end
/-- after the loop -/
def rst (i : Nat) : Stmt := (defBody sLaw).getD (i + 1) (.Pass ⟨0, 0, 0, 0⟩)
structure Z0 (T : Tbl) (σ : L2.St) (H : Hp) : Prop where
  len : σ.length = 21
  tb : Tb T H
abbrev Z1 (T : Tbl) (_ : Unit) (σ : L2.St) (H : Hp) : Prop := Z0 T σ H ∧ At σ H 14 (.list badL)
theorem Z1.gr {T : Tbl} : ∀ (c : Unit) (σ : L2.St) (H H' : Hp), Z1 T c σ H → Gr T H H' → Z1 T c σ H' := fun c σ H H' ⟨z, a⟩ g => ⟨⟨z.len, g.2 z.tb⟩, a.gr g⟩
section
variable {P : Program} {w : World} {K : PySem.W.Frag} {mg : Str → Option Value} {base : Heap} {T : Tbl} {C f cdW : Addr} {A : Around} {outer : List Env} {s : Shared} {H0 : Hp} {E : XK}
theorem rest0 : StepOk Unit (XL P w K mg base f cdW A outer s H0 E) (rst 0) (fun _ => Z0 T) (Z1 T) := by
  refine step_asg (T := T) (i := 14) (ps_set (i := 14) scLaw.nd rfl (.inl rfl) (pe_lst (pa_cons pe_int (pa_cons (pe_tup pa_nil) (pa_cons (pe_tup (pa_cons pe_str pa_nil)) (pa_cons (pe_tup (pa_cons pe_str (pa_cons (pe_un un_neg pe_int) pa_nil))) (pa_cons (pe_tup (pa_cons pe_str (pa_cons pe_bl pa_nil)))
    (pa_cons (pe_tup (pa_cons pe_str (pa_cons pe_str pa_nil))) (pa_cons (pe_tup (pa_cons pe_str (pa_cons pe_int pa_nil))) (pa_cons (pe_tup (pa_cons pe_str (pa_cons pe_int pa_nil))) (pa_cons (pe_tup (pa_cons pe_str (pa_cons pe_str pa_nil))) (pa_cons (pe_tup (pa_cons pe_str (pa_cons pe_str (pa_cons pe_int pa_nil))))
    (pa_cons (pe_tup (pa_cons pe_str (pa_cons pe_str (pa_cons (pe_tup (pa_cons pe_str (pa_cons pe_int pa_nil))) pa_nil)))) (pa_cons (pe_tup (pa_cons pe_str (pa_cons (pe_tup (pa_cons pe_str (pa_cons pe_int pa_nil))) (pa_cons pe_int pa_nil))))
    (pa_cons (pe_tup (pa_cons pe_str (pa_cons pe_int (pa_cons (pe_tup (pa_cons pe_str (pa_cons pe_int pa_nil))) (pa_cons (pe_tup (pa_cons pe_str (pa_cons pe_int pa_nil))) pa_nil))))) (pa_cons (pe_tup (pa_cons pe_str (pa_cons pe_int pa_nil)))
    (pa_cons (pe_tup (pa_cons (pe_tup (pa_cons pe_str (pa_cons pe_int pa_nil))) pa_nil)) (pa_cons (pe_tup (pa_cons (pe_lst pa_nil) (pa_cons pe_int pa_nil))) pa_nil)))))))))))))))))) ?_
  rintro c σ H z
  refine ⟨.list badL, ed_lst (eda_cons ed_int (eda_cons (ed_tup eda_nil) (eda_cons (ed_tup (eda_cons ed_str eda_nil)) (eda_cons (ed_tup (eda_cons ed_str (eda_cons (ed_neg ed_int) eda_nil))) (eda_cons (ed_tup (eda_cons ed_str (eda_cons ed_bl eda_nil)))
    (eda_cons (ed_tup (eda_cons ed_str (eda_cons ed_str eda_nil))) (eda_cons (ed_tup (eda_cons ed_str (eda_cons ed_int eda_nil))) (eda_cons (ed_tup (eda_cons ed_str (eda_cons ed_int eda_nil))) (eda_cons (ed_tup (eda_cons ed_str (eda_cons ed_str eda_nil))) (eda_cons (ed_tup (eda_cons ed_str (eda_cons ed_str (eda_cons ed_int eda_nil))))
    (eda_cons (ed_tup (eda_cons ed_str (eda_cons ed_str (eda_cons (ed_tup (eda_cons ed_str (eda_cons ed_int eda_nil))) eda_nil)))) (eda_cons (ed_tup (eda_cons ed_str (eda_cons (ed_tup (eda_cons ed_str (eda_cons ed_int eda_nil))) (eda_cons ed_int eda_nil))))
    (eda_cons (ed_tup (eda_cons ed_str (eda_cons ed_int (eda_cons (ed_tup (eda_cons ed_str (eda_cons ed_int eda_nil))) (eda_cons (ed_tup (eda_cons ed_str (eda_cons ed_int eda_nil))) eda_nil))))) (eda_cons (ed_tup (eda_cons ed_str (eda_cons ed_int eda_nil)))
    (eda_cons (ed_tup (eda_cons (ed_tup (eda_cons ed_str (eda_cons ed_int eda_nil))) eda_nil)) (eda_cons (ed_tup (eda_cons (ed_lst eda_nil) (eda_cons ed_int eda_nil))) eda_nil)))))))))))))))), fun x H' g hx => ⟨⟨by rw [List.length_set]; exact z.len, g.2 z.tb⟩, At.new (by rw [z.len]; omega) hx⟩⟩
theorem rest1 (L : Lib P w K mg base T C cdW) (hr : Room 43 (XL P w K mg base f cdW A outer s H0 E).A) : StepOk Unit (XL P w K mg base f cdW A outer s H0 E) (rst 1) (Z1 T) (Z1 T) := by
  obtain ⟨f1, d1, G1, C1⟩ := L.chk.ex
  obtain ⟨ft, ftd, FT, mT, kT, bT⟩ := L.told
  obtain ⟨oc, od, kV, doc, pm, an, cdv, ct, osl, rfl, lk, hcd⟩ := FT.ex
  have r5 := hr.mono (show 4 + 2 ≤ 43 by omega)
  have hq1 : (T.aW, (XL P w K mg base f cdW A outer s H0 E).env.qual ++ "<lambda>") ∈ T.list := qual_W ▸ hmW
  have hq2 : ∀ p ∈ T.list, p.1 = T.aW → p.2 = (XL P w K mg base f cdW A outer s H0 E).env.qual ++ "<lambda>" := by rw [qual_W]; exact tbl_hu hmW
  refine step_if (T := T) (pt_cmpR (op_neD (hu_of hr)) (pe_lc (own := [("one", 8)]) (g := gName 8) (tt := tTest (tOp (rNeT K) (LamX.tLam T.list (LamX.TTold K C teW) fun E => tCall (spChk T C) [] E (tCons (tVar 8) tNil)) (tC (.str "TermError")))) rfl scLaw.nd (pi_list (pv 14)) (blkOk_by (N := NL) (sc := defScope sLaw) (by decide +kernel)) (fun _ _ _ _ _ => pg_name (i := 8) scLaw.nd rfl (Or.inr rfl))
      (fun _ _ _ _ _ => pts_one (pt_cmpR (op_neT (hu_of hr)) (LamX.pe_lamcall (T := T.list) (TT := LamX.TTold K C teW) (t := fun E => tCall (spChk T C) [] E (tCons (tVar 8) tNil)) rfl mT kT lk hcd bT scTold rfl (.inl rfl) (LamX.told_gives rfl L.te (by decide) (fun _ => rfl)) L.tb rfl hq1 hq2 r5
        (LamX.lamS_by (sc := { kind := .function, names := [((".0" : Str), NameKind.local), ("one", NameKind.cell), ("_law_told", NameKind.globalImplicit)], isGenerator := false, isCoroutine := false }) (by decide +kernel)) rfl (fun _ _ _ _ _ => rfl)
        (fun A outer s H E f c' hr2 => pe_call G1 hr2 rfl C1.m C1.kp C1.b .nil (passes_call (takes_of rfl rfl rfl rfl) (fun _ _ _ _ h => h)) (pa_cons (pv 8) pa_nil))) pe_str (nomark _))) (fun _ _ _ _ _ => pv 8)) (pe_lst pa_nil) (nomark _)) (pss_one (ps_ret pe_bl)) ?_ Z1.gr
  rintro c σ H ⟨z, a14⟩
  refine et_ne (d := .list []) (ed_is (ed_lc (α := PyData) (L := badL) (f1 := id) (f2 := id) (b := fun _ => false) (g := gName 8) (vs := [8]) (wi := iList K (tVar 14)) (te := tVar 8)
      (ei_list (by rw [List.map_id]; exact ed_at a14)) (by decide) (fun _ _ z => by cases z) (fun d hd x H3 g3 hx => ⟨_, fun Q h => h, wipe_set1, ?_, fun z => by cases z⟩)) ?_) (ed_lst eda_nil) (by decide)
  · obtain ⟨b1, b3⟩ := bad_ok d hd
    have hx : Dx H3 x d := hx
    have ew : (!PyData.eqv (.str teW) (.str teW)) = false := by decide +kernel
    refine et_test (ed_is (ed_neT (d := .str teW) (e := .str teW) (ed_is (ed_chk L.exm (g3.2 z.tb) (At.own (by rw [z.len]; omega) hx) b1) (by rw [b3, if_neg Bool.false_ne_true])) ed_str (by decide +kernel) (by decide +kernel) (Nat.zero_le _)) (congrArg PyData.bool ew))
  · simp
theorem rest2 (L : Lib P w K mg base T C cdW) (hr : Room 43 (XL P w K mg base f cdW A outer s H0 E).A) : StepOk Unit (XL P w K mg base f cdW A outer s H0 E) (rst 2) (Z1 T) (Z1 T) := by
  obtain ⟨f1, d1, G1, C1⟩ := L.same.ex
  obtain ⟨f2, d2, G2, C2⟩ := L.pl.ex
  have r1 := hr.mono (show 1 ≤ 43 by omega)
  have r22 := hr.mono (show 22 ≤ 43 by omega)
  have pl : ∀ {x : Str}, True := fun {x} => trivial
  refine step_if (T := T) (PW.pt (pw_or (pt_cmpR op_notBl (pe_call G1 r22 rfl C1.m C1.kp C1.b .nil pass0 (pa_cons (pe_tup (pa_cons pe_str (pa_cons pe_str (pa_cons (pe_tup (pa_cons pe_str (pa_cons pe_int pa_nil))) (pa_cons (pe_tup (pa_cons pe_str (pa_cons pe_int pa_nil))) pa_nil)))))
      (pa_cons (pe_tup (pa_cons pe_str (pa_cons pe_str (pa_cons (pe_tup (pa_cons pe_str (pa_cons pe_int pa_nil))) (pa_cons (pe_tup (pa_cons pe_str (pa_cons pe_int pa_nil))) pa_nil))))) pa_nil))) pe_bl (by rfl))
    (pw_or1 (pt_cmpR op_ne (pe_call G2 r1 rfl C2.m C2.kp C2.b .nil pass0 (pa_cons pe_int (pa_cons pe_int pa_nil))) pe_int (nomark _))))) (pss_one (ps_ret pe_bl)) ?_ Z1.gr
  rintro c σ H ⟨z, a14⟩
  have hT := z.tb
  have e1 : ∀ x : Str, ED T (tTup (tCons (tC (.str "lam")) (tCons (tC (.str x)) (tCons (tTup (tCons (tC (.str "sort")) (tCons (tC (.int 0)) tNil))) (tCons (tTup (tCons (tC (.str "var")) (tCons (tC (.int 0)) tNil))) tNil))))) σ H (enc (.bind false x (.leaf (.sort 0)) (.var 0))) := fun x => ed_tup (eda_cons ed_str (eda_cons ed_str (eda_cons (ed_tup (eda_cons ed_str (eda_cons ed_int eda_nil))) (eda_cons (ed_tup (eda_cons ed_str (eda_cons ed_int eda_nil))) eda_nil))))
  have e2 : ED T (tCall (spF T (rSame 20)) [] E0 (tCons (tTup (tCons (tC (.str "lam")) (tCons (tC (.str "x")) (tCons (tTup (tCons (tC (.str "sort")) (tCons (tC (.int 0)) tNil))) (tCons (tTup (tCons (tC (.str "var")) (tCons (tC (.int 0)) tNil))) tNil))))) (tCons (tTup (tCons (tC (.str "lam")) (tCons (tC (.str "y")) (tCons (tTup (tCons (tC (.str "sort")) (tCons (tC (.int 0)) tNil))) (tCons (tTup (tCons (tC (.str "var")) (tCons (tC (.int 0)) tNil))) tNil))))) tNil))) σ H (.bool true) :=
    ed_call (dd := []) (R := rSame 20) hT (eda_cons (e1 "x") (eda_cons (e1 "y") eda_nil)) (fun _ => .nil) ⟨_, _, rfl, by decide, ⟨by decide +kernel, True.intro, True.intro⟩, ⟨by decide +kernel, True.intro, True.intro⟩, by decide, by decide, by decide, rfl⟩
  refine et_or (a := false) (b := false) (fun H1 g Q q => e2 H1 g _ fun v H2 g2 hv => ?_) (fun _ => et_test (ed_is (ed_neI (a := 0) (b := 0) (ed_call (dd := []) (R := rPl) (ds := [.int 3, .int 0]) hT (eda_cons ed_int (eda_cons ed_int eda_nil)) (fun _ => .nil) ⟨3, 0, rfl, rfl⟩) ed_int) rfl))
  cases hv
  exact ⟨true, true, rfl, rfl, _, rfl, q H2 g2⟩
end
end K1
namespace K1
open PySem PySem.Spec PyProof.Rows L2
def spLaw (K : PySem.W.Frag) (T : Tbl) : Sp := fun vs H Q _ => ∃ (a : Addr) (ns : List Int), vs = [.ref a] ∧ SqL K H a (ns.map V.int) ∧ Tb T H ∧ ∀ H', Q (.bl true) H'
section
variable {P : Program} {w : World} {K : PySem.W.Frag} {mg : Str → Option Value} {base : Heap} {T : Tbl} {C f cdW : Addr} {fd : FuncData}
theorem law_parts : defBody sLaw = [(defBody sLaw).getD 0 (.Pass ⟨0, 0, 0, 0⟩), rst 0, rst 1, rst 2, rst 3] := rfl
theorem ok_law (F : FunC K "law" "law" sLaw cdW f fd) (L : Lib P w K mg base T C cdW) : FnOk P w K mg base CX0 44 f fd ["script"] (spLaw K T) := by
  obtain ⟨oc, od, dV, kV, doc, pm, an, ct, osl, rfl, lk, hcd⟩ := F.ex
  refine fn_of lk hcd scLaw (fun vs H Q E ⟨a, ns, e, _⟩ => by rw [e]; rfl) (fun A outer s H vs Q E hr h => ?_)
  obtain ⟨a, ns, rfl, hS, hT, q⟩ := h
  suffices key : ∃ t, PSs (XL P w K mg base f cdW A outer s H E) (defBody sLaw) t ∧ t { nx := fun _ H' => Q .non H', rt := Q } (L2.start NL [.ref a]) H by
    obtain ⟨t, h1, h2⟩ := key
    exact ⟨t, h1.nox, h2⟩
  have hr : Room 43 (XL P w K mg base f cdW A outer s H E).A := hr
  obtain ⟨tb, hb, hbq⟩ := body (P := P) (w := w) (K := K) (mg := mg) (base := base) (T := T) (f := f) (outer := outer) (s := s) (H0 := H) (E := E) L hr
  obtain ⟨t0, p0, q0⟩ := rest0 (P := P) (w := w) (K := K) (mg := mg) (base := base) (T := T) (f := f) (cdW := cdW) (A := A) (outer := outer) (s := s) (H0 := H) (E := E)
  obtain ⟨t1, p1, q1⟩ := rest1 (f := f) (outer := outer) (s := s) (H0 := H) (E := E) L hr
  obtain ⟨t2, p2, q2⟩ := rest2 (f := f) (outer := outer) (s := s) (H0 := H) (E := E) L hr
  obtain ⟨fr, frd, GR, CR⟩ := L.rounds.ex
  obtain ⟨f2, d2, G2, C2⟩ := L.pl.ex
  have r1 := hr.mono (show 1 ≤ 43 by omega)
  have r2 := hr.mono (show 2 ≤ 43 by omega)
  rw [law_parts]
  refine ⟨_, pss_cons (ps_for PassesOwn.never rfl (pi_list (pe_call GR r2 rfl CR.m CR.kp CR.b .nil pass0 (pa_cons (pv 0) (pa_cons pe_int pa_nil)))) (pg_name (i := 1) scLaw.nd rfl (.inr rfl)) hb)
    (pss_cons p0 (pss_cons p1 (pss_cons p2 (pss_one (ps_ret (pe_and (pe_cmpR op_eq (pe_call G2 r1 rfl C2.m C2.kp C2.b .nil pass0 (pa_cons pe_int (pa_cons pe_int pa_nil))) pe_int (nomark _))
      (pe_one (pe_cmpR op_eq (pe_call G2 r1 rfl C2.m C2.kp C2.b .nil pass0 (pa_cons pe_int (pa_cons pe_int pa_nil))) pe_int (nomark _))))))))), ?_⟩
  refine ⟨_, rfl, a, ns, rfl, hS, hT, fun p d H1 g1 hp hd => ?_⟩
  refine ⟨p, rfl, ⟨_, SqL.of hp⟩, for_list (K := K) (xs := [.ref d]) (fun i σ' H' => H' p = some (.lst [.ref d]) ∧ ((i = 0 ∧ σ' = L2.start NL [.ref a] ∧ Gr T H H' ∧ IsDice H' d) ∨ (i = 1 ∧ Z0 T σ' H'))) ⟨hp, .inl ⟨rfl, rfl, g1, hd⟩⟩ (fun i σ' H' _ h => SqL.of h.1) ?_ ?_⟩
  · rintro i x σ' H' hx ⟨hp', h⟩
    have hi := (List.getElem?_eq_some_iff.mp hx).1
    have hi0 : i = 0 := by simpa using hi
    subst hi0
    cases hx
    rcases h with ⟨_, rfl, g, hd'⟩ | ⟨z, _⟩
    · refine hbq (p, d) _ _ _ ⟨rfl, rfl, hd', g.2 hT, hp'⟩ fun σ2 H2 b => ⟨b.lst, .inr ⟨rfl, b.len, b.tb⟩⟩
    · cases z
  · rintro σ' H' ⟨hp', h⟩
    rcases h with ⟨z, _⟩ | ⟨_, z⟩
    · cases z
    · refine q0 () _ _ _ z fun σ2 H2 z2 => q1 () _ _ _ z2 fun σ3 H3 z3 => q2 () _ _ _ z3 fun σ4 H4 z4 => ?_
      have hT4 := z4.1.tb
      have e1 : ED T _ σ4 H4 (.bool true) := ed_is (ed_andV (T := T) (a := true) (b := true) (ed_is (ed_eqI (a := 3) (b := 3) (ed_call (T := T) (E := E0) (dd := []) (R := rPl) (ds := [.int 3, .int 2]) hT4 (eda_cons ed_int (eda_cons ed_int eda_nil)) (fun _ => .nil) ⟨3, 2, rfl, rfl⟩) ed_int) rfl)
        (fun _ => ed_is (ed_eqI (a := 4) (b := 4) (ed_call (T := T) (E := E0) (dd := []) (R := rPl) (ds := [.int 0, .int 4]) hT4 (eda_cons ed_int (eda_cons ed_int eda_nil)) (fun _ => .nil) ⟨0, 4, rfl, rfl⟩) ed_int) rfl)) rfl
      exact e1 H4 (Gr.refl _) _ fun v H5 g5 hv => by
        cases hv
        exact q H5
end
end K1
namespace K1
open PySem PySem.Spec PyProof.Rows L2
/-! ### the defs as they stand -/
section
variable (K : PySem.W.Frag) (mg : Str → Option Value)
structure DefF (x : Str) (st : Stmt) : Prop where
  ex : ∃ f fd, Fun K x x st f fd ∧ mg x = some (.ref f) ∧ PySem.W.keepIn K (.ref f) = true
structure DefC (x : Str) (st : Stmt) (c : Addr) : Prop where
  ex : ∃ f fd, FunC K x x st c f fd ∧ Fun K x x st f fd ∧ mg x = some (.ref f) ∧ PySem.W.keepIn K (.ref f) = true
structure DefD (x : Str) (st : Stmt) (dvs : List V) : Prop where
  ex : ∃ f fd, FunD K x x (defArgs st) (defBody st) (defScope st) dvs [] f fd ∧ mg x = some (.ref f) ∧ PySem.W.keepIn K (.ref f) = true
structure DefE (x : Str) (st : Stmt) (dvs : List V) (c : Addr) : Prop where
  ex : ∃ f fd, FunC K x x st c f fd ∧ FunD K x x (defArgs st) (defBody st) (defScope st) dvs [] f fd ∧ mg x = some (.ref f) ∧ PySem.W.keepIn K (.ref f) = true
end
section
variable {K : PySem.W.Frag} {mg : Str → Option Value} {h : Heap} {x : Str} {st : Stmt} {f c TT : Addr} {oc : Value} {od an : Option Addr} {osl : Array (Option Value)} {kV doc pm cdv ct : Value}
theorem defF (X : K.In h) (G : h.Ns mainGlobals mg) (a : PySem.W.nsIn K mainGlobals x = some (some (.ref f))) (l : K.lookup f = some ⟨oc, od, .func (PySem.W.fnOf x x (defArgs st) (defBody st) (defScope st) .none kV doc pm an cdv ct), osl⟩) (hc : PySem.W.codeIn K cdv x = true) (k : PySem.W.keepIn K (.ref f) = true) : DefF K mg x st :=
  ⟨f, _, fun_mk l hc k, PySem.W.mg_of X G a, k⟩
theorem defC (X : K.In h) (G : h.Ns mainGlobals mg) (a : PySem.W.nsIn K mainGlobals x = some (some (.ref f))) (l : K.lookup f = some ⟨oc, od, .func (PySem.W.fnOf x x (defArgs st) (defBody st) (defScope st) .none kV doc pm an (.ref c) ct), osl⟩) (hc : PySem.W.codeIn K (.ref c) x = true) (k : PySem.W.keepIn K (.ref f) = true) : DefC K mg x st c :=
  ⟨f, _, ⟨oc, od, .none, kV, doc, pm, an, ct, osl, rfl, l, hc⟩, fun_mk l hc k, PySem.W.mg_of X G a, k⟩
theorem dfl1 {o : Obj} {t : Tok} {n : Nat} (lT : K.lookup TT = some o) (hd : o.data = .seq #[.int 0 t] n) : DflV K (.ref TT) [.int 0] := .inr ⟨by simp, TT, o, [.int 0 t], n, rfl, lT, hd, .cons ⟨t, rfl⟩ .nil⟩
theorem defD {o : Obj} {t : Tok} {n : Nat} (X : K.In h) (G : h.Ns mainGlobals mg) (a : PySem.W.nsIn K mainGlobals x = some (some (.ref f))) (l : K.lookup f = some ⟨oc, od, .func (PySem.W.fnOf x x (defArgs st) (defBody st) (defScope st) (.ref TT) kV doc pm an cdv ct), osl⟩) (hc : PySem.W.codeIn K cdv x = true) (k : PySem.W.keepIn K (.ref f) = true)
    (lT : K.lookup TT = some o) (hd : o.data = .seq #[.int 0 t] n) : DefD K mg x st [.int 0] :=
  ⟨f, _, ⟨⟨oc, od, .ref TT, kV, doc, pm, an, cdv, ct, osl, rfl, l, hc, dfl1 lT hd, .inl rfl⟩, k⟩, PySem.W.mg_of X G a, k⟩
theorem defE {o : Obj} {t : Tok} {n : Nat} (X : K.In h) (G : h.Ns mainGlobals mg) (a : PySem.W.nsIn K mainGlobals x = some (some (.ref f))) (l : K.lookup f = some ⟨oc, od, .func (PySem.W.fnOf x x (defArgs st) (defBody st) (defScope st) (.ref TT) kV doc pm an (.ref c) ct), osl⟩) (hc : PySem.W.codeIn K (.ref c) x = true) (k : PySem.W.keepIn K (.ref f) = true)
    (lT : K.lookup TT = some o) (hd : o.data = .seq #[.int 0 t] n) : DefE K mg x st [.int 0] c :=
  ⟨f, _, ⟨oc, od, .ref TT, kV, doc, pm, an, ct, osl, rfl, l, hc⟩, ⟨⟨oc, od, .ref TT, kV, doc, pm, an, .ref c, ct, osl, rfl, l, hc, dfl1 lT hd, .inl rfl⟩, k⟩, PySem.W.mg_of X G a, k⟩
theorem fnb {fd : FuncData} (F : Fun K x x st f fd) {ps : List Str} (h : ∀ (kV doc pm : Value) (an : Option Addr) (cdv ct : Value) (us : List Value), us.length = ps.length → bindArgs (PySem.W.fnOf x x (defArgs st) (defBody st) (defScope st) .none kV doc pm an cdv ct) ⟨us, []⟩ = pure (ps.zip us)) :
    (∀ (s : Shared) (us : List Value), us.length = ps.length → bindArgs fd ⟨us, []⟩ = pure (ps.zip us)) ∧ Binds K fd ps [] := by
  refine ⟨fun s us hu => ?_, F.binds h⟩
  obtain ⟨oc, od, kV, doc, pm, an, cdv, ct, osl, rfl, lk, hcd⟩ := F.ex
  exact h kV doc pm an cdv ct us hu
end
/-- the names of the built-ins that the top leaves -/
def zNames : List Str := ["any", "all", "isinstance", "tuple", "str", "len", "zip", "int", "bool", "reversed", "max", "range", "abs", "enumerate", "sum", "dict"]
section
variable {P : Program} {w : World} {K : PySem.W.Frag} {mg : Str → Option Value} {base : Heap} {T : Tbl} {C cdL cdP cdW cdU : Addr} {t1 t2 t3 : Tok}
theorem lib_of (d7 : DefF K mg "parts" (topS 7)) (d8 : DefF K mg "with_parts" (topS 8)) (d9 : DefF K mg "is_number" (topS 9)) (d10 : DefF K mg "is_level" (topS 10)) (d11 : DefF K mg "check_term" (topS 11)) (d12 : DefF K mg "checked_parts" (topS 12)) (d13 : DefF K mg "nodes" (topS 13)) (d14 : DefF K mg "rebuilt" (topS 14)) (d15 : DefF K mg "with_variables" (topS 15))
    (d16 : DefE K mg "lifted" (topS 16) [.int 0] cdL) (d17 : DefD K mg "put_in" (topS 17) [.int 0]) (d18 : DefF K mg "put_in_all" (topS 18)) (d19 : DefC K mg "put_in_from" (topS 19) cdP) (d20 : DefD K mg "lowest_free" (topS 20) [.int 0]) (d21 : DefC K mg "uses_var" (topS 21) cdU) (d22 : DefF K mg "uses_name" (topS 22)) (d23 : DefF K mg "names_in" (topS 23))
    (d24 : DefF K mg "same" (topS 24)) (d25 : DefF K mg "size" (topS 25)) (d26 : DefF K mg "apply" (topS 26)) (d27 : DefF K mg "spine" (topS 27)) (d28 : DefF K mg "binders" (topS 28)) (d29 : DefF K mg "arrow" (topS 29)) (d30 : DefF K mg "split_pis" (topS 30)) (d31 : DefF K mg "pi_level" (topS 31))
    (d33 : DefF K mg "_law_dice" (topS 33)) (d34 : DefF K mg "_law_roll" (topS 34)) (d35 : DefF K mg "_law_rounds" (topS 35)) (d36 : DefF K mg "_law_told" (topS 36)) (d37 : DefF K mg "_law_term" (topS 37)) (d38 : DefF K mg "_law_named" (topS 38)) (d39 : DefF K mg "_law_free" (topS 39)) (d40 : DefF K mg "_law_count" (topS 40)) (d41 : DefF K mg "_law_put" (topS 41)) (d42 : DefF K mg "_law_back" (topS 42))
    (hC : TErr K mg C) (exm : PySem.W.exmOne K (.ref C) (.ref C) = some true) (m1 : mg "MOST_PARTS" = some (.int 20000 t1)) (m2 : mg "MOST_DEEP" = some (.int 100 t2)) (m3 : mg "MOST_LEVEL" = some (.int 12 t3)) (z : ∀ x ∈ zNames, mg x = none)
    (tbL : LamX.TabB base mg cdL T.aL) (tbP : LamX.TabB base mg cdP T.aP) (tbW : LamX.TabB base mg cdW T.aW) (tbU : LamX.TabB base mg cdU T.aU) : Lib P w K mg base T C cdW := by
  have z1 : mg "any" = none := z _ (by decide)
  have z2 : mg "all" = none := z _ (by decide)
  have z3 : mg "isinstance" = none := z _ (by decide)
  have z4 : mg "tuple" = none := z _ (by decide)
  have z5 : mg "str" = none := z _ (by decide)
  have z6 : mg "len" = none := z _ (by decide)
  have z7 : mg "zip" = none := z _ (by decide)
  have z8 : mg "int" = none := z _ (by decide)
  have z9 : mg "bool" = none := z _ (by decide)
  have z10 : mg "reversed" = none := z _ (by decide)
  have z11 : mg "max" = none := z _ (by decide)
  have z12 : mg "range" = none := z _ (by decide)
  have z13 : mg "abs" = none := z _ (by decide)
  have z14 : mg "enumerate" = none := z _ (by decide)
  have z15 : mg "sum" = none := z _ (by decide)
  have z16 : mg "dict" = none := z _ (by decide)
  obtain ⟨f7, e7, F7, g7, k7⟩ := d7.ex
  obtain ⟨f8, e8, F8, g8, k8⟩ := d8.ex
  obtain ⟨f9, e9, F9, g9, k9⟩ := d9.ex
  obtain ⟨f10, e10, F10, g10, k10⟩ := d10.ex
  obtain ⟨f11, e11, F11, g11, k11⟩ := d11.ex
  obtain ⟨f12, e12, F12, g12, k12⟩ := d12.ex
  obtain ⟨f13, e13, F13, g13, k13⟩ := d13.ex
  obtain ⟨f14, e14, F14, g14, k14⟩ := d14.ex
  obtain ⟨f15, e15, F15, g15, k15⟩ := d15.ex
  obtain ⟨f16, e16, F16, F16', g16, k16⟩ := d16.ex
  obtain ⟨f17, e17, F17, g17, k17⟩ := d17.ex
  obtain ⟨f18, e18, F18, g18, k18⟩ := d18.ex
  obtain ⟨f19, e19, F19, F19', g19, k19⟩ := d19.ex
  obtain ⟨f20, e20, F20, g20, k20⟩ := d20.ex
  obtain ⟨f21, e21, F21, F21', g21, k21⟩ := d21.ex
  obtain ⟨f22, e22, F22, g22, k22⟩ := d22.ex
  obtain ⟨f23, e23, F23, g23, k23⟩ := d23.ex
  obtain ⟨f24, e24, F24, g24, k24⟩ := d24.ex
  obtain ⟨f25, e25, F25, g25, k25⟩ := d25.ex
  obtain ⟨f26, e26, F26, g26, k26⟩ := d26.ex
  obtain ⟨f27, e27, F27, g27, k27⟩ := d27.ex
  obtain ⟨f28, e28, F28, g28, k28⟩ := d28.ex
  obtain ⟨f29, e29, F29, g29, k29⟩ := d29.ex
  obtain ⟨f30, e30, F30, g30, k30⟩ := d30.ex
  obtain ⟨f31, e31, F31, g31, k31⟩ := d31.ex
  obtain ⟨f33, e33, F33, g33, k33⟩ := d33.ex
  obtain ⟨f34, e34, F34, g34, k34⟩ := d34.ex
  obtain ⟨f35, e35, F35, g35, k35⟩ := d35.ex
  obtain ⟨f36, e36, F36, g36, k36⟩ := d36.ex
  obtain ⟨f37, e37, F37, g37, k37⟩ := d37.ex
  obtain ⟨f38, e38, F38, g38, k38⟩ := d38.ex
  obtain ⟨f39, e39, F39, g39, k39⟩ := d39.ex
  obtain ⟨f40, e40, F40, g40, k40⟩ := d40.ex
  obtain ⟨f41, e41, F41, g41, k41⟩ := d41.ex
  obtain ⟨f42, e42, F42, g42, k42⟩ := d42.ex
  have b7 := fnb (ps := ["term"]) F7 fun _ _ _ _ _ _ us hl => match us, hl with | [_], _ => rfl
  have b8 := fnb (ps := ["term", "fresh"]) F8 fun _ _ _ _ _ _ us hl => match us, hl with | [_, _], _ => rfl
  have b9 := fnb (ps := ["value"]) F9 fun _ _ _ _ _ _ us hl => match us, hl with | [_], _ => rfl
  have b10 := fnb (ps := ["value"]) F10 fun _ _ _ _ _ _ us hl => match us, hl with | [_], _ => rfl
  have b11 := fnb (ps := ["term"]) F11 fun _ _ _ _ _ _ us hl => match us, hl with | [_], _ => rfl
  have b12 := fnb (ps := ["row"]) F12 fun _ _ _ _ _ _ us hl => match us, hl with | [_], _ => rfl
  have b13 := fnb (ps := ["term"]) F13 fun _ _ _ _ _ _ us hl => match us, hl with | [_], _ => rfl
  have b14 := fnb (ps := ["node", "done"]) F14 fun _ _ _ _ _ _ us hl => match us, hl with | [_, _], _ => rfl
  have b15 := fnb (ps := ["term", "start", "change"]) F15 fun _ _ _ _ _ _ us hl => match us, hl with | [_, _, _], _ => rfl
  obtain ⟨v16, V16, b16⟩ := FunD.binds1 (ps := ["term", "many", "start"]) F16' 2 0 (by simp) rfl fun T kV doc pm an cdv ct us its hu hi => match us, its, hu, hi with | [_, _], [_], _, _ => ⟨_, rfl, rfl⟩
  obtain ⟨v17, V17, b17⟩ := FunD.binds1 (ps := ["term", "value", "start"]) F17 2 0 (by simp) rfl fun T kV doc pm an cdv ct us its hu hi => match us, its, hu, hi with | [_, _], [_], _, _ => ⟨_, rfl, rfl⟩
  have b18 := fnb (ps := ["term", "values"]) F18 fun _ _ _ _ _ _ us hl => match us, hl with | [_, _], _ => rfl
  have b19 := fnb (ps := ["term", "values", "start"]) F19' fun _ _ _ _ _ _ us hl => match us, hl with | [_, _, _], _ => rfl
  obtain ⟨v20, V20, b20⟩ := FunD.binds1 (ps := ["term", "depth"]) F20 1 0 (by simp) rfl fun T kV doc pm an cdv ct us its hu hi => match us, its, hu, hi with | [_], [_], _, _ => ⟨_, rfl, rfl⟩
  have b21 := fnb (ps := ["term", "number"]) F21' fun _ _ _ _ _ _ us hl => match us, hl with | [_, _], _ => rfl
  have b22 := fnb (ps := ["term", "name"]) F22 fun _ _ _ _ _ _ us hl => match us, hl with | [_, _], _ => rfl
  have b23 := fnb (ps := ["term"]) F23 fun _ _ _ _ _ _ us hl => match us, hl with | [_], _ => rfl
  have b24 := fnb (ps := ["one", "other"]) F24 fun _ _ _ _ _ _ us hl => match us, hl with | [_, _], _ => rfl
  have b25 := fnb (ps := ["term"]) F25 fun _ _ _ _ _ _ us hl => match us, hl with | [_], _ => rfl
  have b26 := fnb (ps := ["function", "arguments"]) F26 fun _ _ _ _ _ _ us hl => match us, hl with | [_, _], _ => rfl
  have b27 := fnb (ps := ["term"]) F27 fun _ _ _ _ _ _ us hl => match us, hl with | [_], _ => rfl
  have b28 := fnb (ps := ["word", "rows", "body"]) F28 fun _ _ _ _ _ _ us hl => match us, hl with | [_, _, _], _ => rfl
  have b29 := fnb (ps := ["kind", "body"]) F29 fun _ _ _ _ _ _ us hl => match us, hl with | [_, _], _ => rfl
  have b30 := fnb (ps := ["term", "many"]) F30 fun _ _ _ _ _ _ us hl => match us, hl with | [_, _], _ => rfl
  have b31 := fnb (ps := ["one", "other"]) F31 fun _ _ _ _ _ _ us hl => match us, hl with | [_, _], _ => rfl
  have b33 := fnb (ps := ["cell"]) F33 fun _ _ _ _ _ _ us hl => match us, hl with | [_], _ => rfl
  have b34 := fnb (ps := ["dice", "many"]) F34 fun _ _ _ _ _ _ us hl => match us, hl with | [_, _], _ => rfl
  have b35 := fnb (ps := ["script", "most"]) F35 fun _ _ _ _ _ _ us hl => match us, hl with | [_, _], _ => rfl
  have b36 := fnb (ps := ["what"]) F36 fun _ _ _ _ _ _ us hl => match us, hl with | [_], _ => rfl
  have b37 := fnb (ps := ["dice", "deep"]) F37 fun _ _ _ _ _ _ us hl => match us, hl with | [_, _], _ => rfl
  have b38 := fnb (ps := ["term", "names", "fresh"]) F38 fun _ _ _ _ _ _ us hl => match us, hl with | [_, _, _], _ => rfl
  have b39 := fnb (ps := ["term", "depth"]) F39 fun _ _ _ _ _ _ us hl => match us, hl with | [_, _], _ => rfl
  have b40 := fnb (ps := ["term"]) F40 fun _ _ _ _ _ _ us hl => match us, hl with | [_], _ => rfl
  have b41 := fnb (ps := ["named", "name", "value"]) F41 fun _ _ _ _ _ _ us hl => match us, hl with | [_, _, _], _ => rfl
  have b42 := fnb (ps := ["named", "bound"]) F42 fun _ _ _ _ _ _ us hl => match us, hl with | [_, _], _ => rfl
  have C7 : Cal K mg "parts" f7 e7 ["term"] := ⟨g7, k7, b7.2⟩
  have C8 : Cal K mg "with_parts" f8 e8 ["term", "fresh"] := ⟨g8, k8, b8.2⟩
  have C9 : Cal K mg "is_number" f9 e9 ["value"] := ⟨g9, k9, b9.2⟩
  have C10 : Cal K mg "is_level" f10 e10 ["value"] := ⟨g10, k10, b10.2⟩
  have C11 : Cal K mg "check_term" f11 e11 ["term"] := ⟨g11, k11, b11.2⟩
  have C12 : Cal K mg "checked_parts" f12 e12 ["row"] := ⟨g12, k12, b12.2⟩
  have C13 : Cal K mg "nodes" f13 e13 ["term"] := ⟨g13, k13, b13.2⟩
  have C14 : Cal K mg "rebuilt" f14 e14 ["node", "done"] := ⟨g14, k14, b14.2⟩
  have C15 : Cal K mg "with_variables" f15 e15 ["term", "start", "change"] := ⟨g15, k15, b15.2⟩
  have C16 : CalD K mg "lifted" f16 e16 ["term", "many", "start"] [.int 0] v16 := ⟨g16, k16, V16, b16⟩
  have C17 : CalD K mg "put_in" f17 e17 ["term", "value", "start"] [.int 0] v17 := ⟨g17, k17, V17, b17⟩
  have C19 : Cal K mg "put_in_from" f19 e19 ["term", "values", "start"] := ⟨g19, k19, b19.2⟩
  have C20 : CalD K mg "lowest_free" f20 e20 ["term", "depth"] [.int 0] v20 := ⟨g20, k20, V20, b20⟩
  have C23 : Cal K mg "names_in" f23 e23 ["term"] := ⟨g23, k23, b23.2⟩
  have C24 : Cal K mg "same" f24 e24 ["one", "other"] := ⟨g24, k24, b24.2⟩
  have C33 : Cal K mg "_law_dice" f33 e33 ["cell"] := ⟨g33, k33, b33.2⟩
  have C34 : Cal K mg "_law_roll" f34 e34 ["dice", "many"] := ⟨g34, k34, b34.2⟩
  have C37 : Cal K mg "_law_term" f37 e37 ["dice", "deep"] := ⟨g37, k37, b37.2⟩
  have C38 : Cal K mg "_law_named" f38 e38 ["term", "names", "fresh"] := ⟨g38, k38, b38.2⟩
  have C39 : Cal K mg "_law_free" f39 e39 ["term", "depth"] := ⟨g39, k39, b39.2⟩
  have C40 : Cal K mg "_law_count" f40 e40 ["term"] := ⟨g40, k40, b40.2⟩
  have C41 : Cal K mg "_law_put" f41 e41 ["named", "name", "value"] := ⟨g41, k41, b41.2⟩
  have C42 : Cal K mg "_law_back" f42 e42 ["named", "bound"] := ⟨g42, k42, b42.2⟩
  have G7 : FnOk P w K mg base CX0 1 f7 e7 ["term"] (spF T rParts) := ok_parts F7
  have G8 : FnOk P w K mg base CX0 1 f8 e8 ["term", "fresh"] (spF T rWith) := ok_with F8
  have G9 : FnOk P w K mg base CX0 1 f9 e9 ["value"] (spF T rNum) := ok_num F9 z3 z8 z9
  have G10 : FnOk P w K mg base CX0 2 f10 e10 ["value"] (spF T rLev) := ok_lev F10 G9 C9 m3
  have G12 : FnOk P w K mg base (L2.CX P w) 3 f12 e12 ["row"] (spCp T C) := ok_cp F12 hC G10 C10 z3 z4 z5 z8 z9 z6
  have G13 : FnOk P w K mg base CX0 2 f13 e13 ["term"] (spF T rNodes) := ok_nodes F13 G7 C7 z10
  have G14 : FnOk P w K mg base CX0 2 f14 e14 ["node", "done"] (spReb T) := ok_reb F14 G7 C7 G8 C8
  have G15 : ∀ n k, WvOk P w K mg base T f15 n k := fun n k => ok_wv F15 C15 G13 C13 G14 C14 z10 n
  have G16 : FnOk P w K mg base CX0 20 f16 e16 ["term", "many", "start"] (spF T (rLift 16)) := ok_lift F16 (G15 16 1) C15 tbL
  have G19 : FnOk P w K mg base CX0 40 f19 e19 ["term", "values", "start"] (spF T (rPif 16)) := ok_pif F19 (G15 16 21) C15 G16 C16 tbP z6
  have G23 : FnOk P w K mg base CX0 3 f23 e23 ["term"] (spF T rNames) := ok_names F23 G13 C13 z4
  have G33 : FnOk P w K mg base CX0 1 f33 e33 ["cell"] (spF T rDice) := ok_dice F33 z13 z8
  have G34 : FnOk P w K mg base CX0 1 f34 e34 ["dice", "many"] (spRoll T) := ok_roll F34 z8
  exact {
    chk := ⟨f11, e11, ok_chk F11 hC G12 C12 m1 m2 z12 z6, C11⟩
    split := ⟨f30, e30, ok_split F30 hC z12, ⟨g30, k30, b30.2⟩⟩
    lifted := ⟨f16, e16, v16, G16, C16⟩
    put_in := ⟨f17, e17, v17, ok_pi F17 G19 C19, C17⟩
    put_all := ⟨f18, e18, ok_pia F18 G19 C19, ⟨g18, k18, b18.2⟩⟩
    arrow := ⟨f29, e29, ok_arrow F29 G16 C16, ⟨g29, k29, b29.2⟩⟩
    parts := ⟨f7, e7, G7, C7⟩
    withp := ⟨f8, e8, G8, C8⟩
    size := ⟨f25, e25, ok_size F25 G13 C13 z6, ⟨g25, k25, b25.2⟩⟩
    pl := ⟨f31, e31, ok_pl F31 z11, ⟨g31, k31, b31.2⟩⟩
    apply := ⟨f26, e26, ok_apply F26, ⟨g26, k26, b26.2⟩⟩
    binders := ⟨f28, e28, ok_bind F28 z10, ⟨g28, k28, b28.2⟩⟩
    spine := ⟨f27, e27, ok_spine F27, ⟨g27, k27, b27.2⟩⟩
    low := ⟨f20, e20, v20, ok_low F20 G13 C13 z11, C20⟩
    names := ⟨f23, e23, G23, C23⟩
    usesN := ⟨f22, e22, ok_usesN F22 G23 C23, ⟨g22, k22, b22.2⟩⟩
    usesV := ⟨f21, e21, ok_uv F21 G13 C13 tbU z1, ⟨g21, k21, b21.2⟩⟩
    same := ⟨f24, e24, ok_same F24 C24 G7 C7 z7 20, C24⟩
    roll := ⟨f34, e34, G34, C34⟩
    rounds := ⟨f35, e35, ok_rounds F35 G33 C33, ⟨g35, k35, b35.2⟩⟩
    term := ⟨f37, e37, ok_term F37 C37 G34 C34 z12 7, C37⟩
    named := ⟨f38, e38, ok_named F38 C38 z6 z5 z4 19, C38⟩
    back := ⟨f42, e42, ok_back F42 C42 z3 z5 z6 z4 19, C42⟩
    put := ⟨f41, e41, ok_put F41 C41 z3 z4 19, C41⟩
    free := ⟨f39, e39, ok_free F39 C39 z14 z3 z4 z8 z6 19, C39⟩
    count := ⟨f40, e40, ok_count F40 C40 z15 z3 z4 19, C40⟩
    told := ⟨f36, e36, F36, g36, k36, b36.2⟩
    te := hC.g
    exm := exm
    tb := tbW
    zrange := z12
    zmax := z11
    zlen := z6
    zdict := z16
    zstr := z5 }
end
end K1
namespace K1
open PySem PySem.Spec PyProof.Rows L2
/-! ### the last step -/
/-- the tables of the defs that the row's text lists are empty -/
def TabFree (q : Program) (K : PySem.W.Frag) (h : Heap) : Prop := ∀ (x : Str) (c P : Addr), ((recsOf q).find? (fun e => e.name == x)).isSome = true → PySem.W.tabIn K x = some (c, P) → PySem.W.CodeHd h c P ∧ h.get? P = some { cls := .none, data := .fields #[] }
theorem walk_own {l : PySem.W.OpenLaw} {n k : Nat} {q : Program} {loose : List Str} {XP : (Str → Option Value) → Heap → Prop} {YP : World → Heap → Prop} {d : DefRec} {K : Params → PySem.W.Frag} {x : Str}
    (hn : l.most = some n) (hn2 : n ≤ sizeLine) (hdf : d.params.defaults = []) (hr : Room k callerA) (hY : ∀ (w : World) (h : Heap), YP w h → (K w.params).In h)
    (F : ∀ (w : World) (mg : Str → Option Value) (fa : Addr) (h : Heap), YP w h → (K w.params).In h → h.Ns mainGlobals mg → mg d.name = some (.ref fa) → TabFree q (K w.params) h → LamX.LawAtS l w (K w.params) CX0 k n x mg fa h) :
    PySem.W.WalkO q loose XP YP l.row.toRowW d [] (fun f vs => PySem.call f vs) := by
  refine Att.attach_callB hn hdf fun w s₀ s₁ mg mb fa o pm cd doc a vs ns G Y ho hd hcd hmg hobj hints hlen hbits hg => ?_
  have KX := hY w _ Y
  obtain ⟨fd, cs, sp, hT, nT, C, hb, hsp, hF⟩ := F w mg fa _ Y KX G.T.g hmg (fun x c P hs ht => by
    obtain ⟨d', hd'⟩ := Option.isSome_iff_exists.mp hs
    exact PySem.W.tab_of G.T KX hd' ht)
  exact LamX.law_callTs KX G.T.g G.T.b G.T.builtins G.T.nolimit hg hT nT C G.T.bmain hobj hints (Nat.le_trans hlen hn2) hr hF hb (fun H hH hS => hsp H a ns hlen hbits hH hS) fun H e s' z => z
theorem law_at {l : PySem.W.OpenLaw} {w : World} {K : PySem.W.Frag} {mg : Str → Option Value} {fa C cdL cdP cdW cdU : Addr} {h : Heap} (T : Tbl) (hfa : mg "law" = some (.ref fa)) (dL : DefC K mg "law" sLaw cdW)
    (lib : ∀ base : Heap, LamX.TabB base mg cdL T.aL → LamX.TabB base mg cdP T.aP → LamX.TabB base mg cdW T.aW → LamX.TabB base mg cdU T.aU → Lib l.prog w K mg base T C cdW)
    (tL : h.get? T.aL = some { cls := .none, data := .fields #[] }) (tP : h.get? T.aP = some { cls := .none, data := .fields #[] }) (tW : h.get? T.aW = some { cls := .none, data := .fields #[] }) (tU : h.get? T.aU = some { cls := .none, data := .fields #[] })
    (nL : K.lookup T.aL = none) (nP : K.lookup T.aP = none) (nW : K.lookup T.aW = none) (nU : K.lookup T.aU = none)
    (cL : PySem.W.CodeHd h cdL T.aL) (cP : PySem.W.CodeHd h cdP T.aP) (cW : PySem.W.CodeHd h cdW T.aW) (cU : PySem.W.CodeHd h cdU T.aU) :
    LamX.LawAtS l w K CX0 44 63 "script" mg fa h := by
  obtain ⟨f, fd, F, F', hm, kp⟩ := dL.ex
  have e := hfa.symm.trans hm
  cases e
  refine ⟨fd, [(cdL, T.aL), (cdP, T.aP), (cdW, T.aW), (cdU, T.aU)], spLaw K T, ?_, ?_, ?_, fun s u => ?_, fun H a ns _ _ hH hS => ⟨a, ns, rfl, hS, ?_, fun _ => rfl⟩, fun base hK hG hB => ?_⟩
  · exact List.forall_mem_cons.mpr ⟨tL, List.forall_mem_cons.mpr ⟨tP, List.forall_mem_cons.mpr ⟨tW, List.forall_mem_cons.mpr ⟨tU, fun _ z => nomatch z⟩⟩⟩⟩
  · exact List.forall_mem_cons.mpr ⟨nL, List.forall_mem_cons.mpr ⟨nP, List.forall_mem_cons.mpr ⟨nW, List.forall_mem_cons.mpr ⟨nU, fun _ z => nomatch z⟩⟩⟩⟩
  · exact List.forall_mem_cons.mpr ⟨cL, List.forall_mem_cons.mpr ⟨cP, List.forall_mem_cons.mpr ⟨cW, List.forall_mem_cons.mpr ⟨cU, fun _ z => nomatch z⟩⟩⟩⟩
  · obtain ⟨oc, od, kV, doc, pm, an, cdv, ct, osl, rfl, lk, hcd⟩ := F'.ex
    exact .of_eq rfl
  · obtain ⟨h1, h'⟩ := List.forall_mem_cons.mp hH
    obtain ⟨h2, h'⟩ := List.forall_mem_cons.mp h'
    obtain ⟨h3, h'⟩ := List.forall_mem_cons.mp h'
    obtain ⟨h4, h'⟩ := List.forall_mem_cons.mp h'
    exact List.forall_mem_cons.mpr ⟨.nil h1, List.forall_mem_cons.mpr ⟨.nil h2, List.forall_mem_cons.mpr ⟨.nil h3, List.forall_mem_cons.mpr ⟨.nil h4, fun _ z => nomatch z⟩⟩⟩⟩
  · obtain ⟨h1, h'⟩ := List.forall_mem_cons.mp hB
    obtain ⟨h2, h'⟩ := List.forall_mem_cons.mp h'
    obtain ⟨h3, h'⟩ := List.forall_mem_cons.mp h'
    obtain ⟨h4, h'⟩ := List.forall_mem_cons.mp h'
    exact ok_law F (lib base h1 h2 h3 h4)
/-! ### the forms -/
section
variable {K : PySem.W.Frag} {w : World} {mg : Str → Option Value} {d : Addr} {es : Array DictEntry} {nF : Nat} {h : Heap}
theorem terr_mk {C : Addr} (X : K.In h) (G : h.Ns mainGlobals mg) (a : PySem.W.nsIn K mainGlobals "TermError" = some (some (.ref C))) (x : PySem.W.excIn K C [.type "ValueError", .type "Exception", .type "BaseException", .type "object"] "ValueError.__new__" = true) (k : PySem.W.keepIn K (.ref C) = true)
    (b : PySem.W.subIn K (.ref C) (.type "BaseException") = some true) (t : PySem.W.typeIn K (.ref C) = some (.type "type")) : TErr K mg C := ⟨PySem.W.mg_of X G a, x, k, b, t⟩
theorem z_mk (X : K.In h) (G : h.Ns mainGlobals mg) (z1 : PySem.W.nsIn K mainGlobals "any" = some none) (z2 : PySem.W.nsIn K mainGlobals "all" = some none) (z3 : PySem.W.nsIn K mainGlobals "isinstance" = some none) (z4 : PySem.W.nsIn K mainGlobals "tuple" = some none) (z5 : PySem.W.nsIn K mainGlobals "str" = some none) (z6 : PySem.W.nsIn K mainGlobals "len" = some none) (z7 : PySem.W.nsIn K mainGlobals "zip" = some none) (z8 : PySem.W.nsIn K mainGlobals "int" = some none)
    (z9 : PySem.W.nsIn K mainGlobals "bool" = some none) (z10 : PySem.W.nsIn K mainGlobals "reversed" = some none) (z11 : PySem.W.nsIn K mainGlobals "max" = some none) (z12 : PySem.W.nsIn K mainGlobals "range" = some none) (z13 : PySem.W.nsIn K mainGlobals "abs" = some none) (z14 : PySem.W.nsIn K mainGlobals "enumerate" = some none) (z15 : PySem.W.nsIn K mainGlobals "sum" = some none) (z16 : PySem.W.nsIn K mainGlobals "dict" = some none) : ∀ x ∈ zNames, mg x = none := by
  have q : ∀ x ∈ zNames, PySem.W.nsIn K mainGlobals x = some none := by
    unfold zNames
    exact List.forall_mem_cons.mpr ⟨z1, List.forall_mem_cons.mpr ⟨z2, List.forall_mem_cons.mpr ⟨z3, List.forall_mem_cons.mpr ⟨z4, List.forall_mem_cons.mpr ⟨z5, List.forall_mem_cons.mpr ⟨z6, List.forall_mem_cons.mpr ⟨z7, List.forall_mem_cons.mpr ⟨z8, List.forall_mem_cons.mpr ⟨z9, List.forall_mem_cons.mpr ⟨z10, List.forall_mem_cons.mpr ⟨z11, List.forall_mem_cons.mpr ⟨z12, List.forall_mem_cons.mpr ⟨z13, List.forall_mem_cons.mpr ⟨z14, List.forall_mem_cons.mpr ⟨z15, List.forall_mem_cons.mpr ⟨z16, fun _ z => nomatch z⟩⟩⟩⟩⟩⟩⟩⟩⟩⟩⟩⟩⟩⟩⟩⟩
  exact fun x hx => PySem.W.mg_none_of X G (q x hx)
theorem exm_own {C : Addr} (b : PySem.W.subIn K (.ref C) (.type "BaseException") = some true) (i : PySem.W.isClsIn K C = true) (t : PySem.W.typeIn K (.ref C) = some (.type "type")) (s : PySem.W.subIn K (.ref C) (.ref C) = some true) : PySem.W.exmOne K (.ref C) (.ref C) = some true := by
  unfold PySem.W.isClsIn at i
  unfold PySem.W.exmOne PySem.W.kitCls
  simp [b, i, t, s]
end
section
variable {l : PySem.W.OpenLaw} {w : World} {K : PySem.W.Frag} {mg : Str → Option Value} {fa C cdL cdP cdW cdU : Addr} {h : Heap} {t1 t2 t3 : Tok}
theorem law_in (T : Tbl) (X : K.In h) (G : h.Ns mainGlobals mg) (hfa : mg "law" = some (.ref fa))
    (d7 : DefF K mg "parts" (topS 7)) (d8 : DefF K mg "with_parts" (topS 8)) (d9 : DefF K mg "is_number" (topS 9)) (d10 : DefF K mg "is_level" (topS 10)) (d11 : DefF K mg "check_term" (topS 11)) (d12 : DefF K mg "checked_parts" (topS 12)) (d13 : DefF K mg "nodes" (topS 13)) (d14 : DefF K mg "rebuilt" (topS 14)) (d15 : DefF K mg "with_variables" (topS 15))
    (d16 : DefE K mg "lifted" (topS 16) [.int 0] cdL) (d17 : DefD K mg "put_in" (topS 17) [.int 0]) (d18 : DefF K mg "put_in_all" (topS 18)) (d19 : DefC K mg "put_in_from" (topS 19) cdP) (d20 : DefD K mg "lowest_free" (topS 20) [.int 0]) (d21 : DefC K mg "uses_var" (topS 21) cdU) (d22 : DefF K mg "uses_name" (topS 22)) (d23 : DefF K mg "names_in" (topS 23))
    (d24 : DefF K mg "same" (topS 24)) (d25 : DefF K mg "size" (topS 25)) (d26 : DefF K mg "apply" (topS 26)) (d27 : DefF K mg "spine" (topS 27)) (d28 : DefF K mg "binders" (topS 28)) (d29 : DefF K mg "arrow" (topS 29)) (d30 : DefF K mg "split_pis" (topS 30)) (d31 : DefF K mg "pi_level" (topS 31))
    (d33 : DefF K mg "_law_dice" (topS 33)) (d34 : DefF K mg "_law_roll" (topS 34)) (d35 : DefF K mg "_law_rounds" (topS 35)) (d36 : DefF K mg "_law_told" (topS 36)) (d37 : DefF K mg "_law_term" (topS 37)) (d38 : DefF K mg "_law_named" (topS 38)) (d39 : DefF K mg "_law_free" (topS 39)) (d40 : DefF K mg "_law_count" (topS 40)) (d41 : DefF K mg "_law_put" (topS 41)) (d42 : DefF K mg "_law_back" (topS 42))
    (d43 : DefC K mg "law" sLaw cdW)
    (hC : TErr K mg C) (exm : PySem.W.exmOne K (.ref C) (.ref C) = some true) (m1 : PySem.W.nsIn K mainGlobals "MOST_PARTS" = some (some (.int 20000 t1))) (m2 : PySem.W.nsIn K mainGlobals "MOST_DEEP" = some (some (.int 100 t2))) (m3 : PySem.W.nsIn K mainGlobals "MOST_LEVEL" = some (some (.int 12 t3))) (z : ∀ x ∈ zNames, mg x = none)
    (tL : h.get? T.aL = some { cls := .none, data := .fields #[] }) (tP : h.get? T.aP = some { cls := .none, data := .fields #[] }) (tW : h.get? T.aW = some { cls := .none, data := .fields #[] }) (tU : PySem.W.CodeHd h cdU T.aU ∧ h.get? T.aU = some { cls := .none, data := .fields #[] })
    (nL : K.lookup T.aL = none) (nP : K.lookup T.aP = none) (nW : K.lookup T.aW = none) (nU : K.lookup T.aU = none)
    (cL : PySem.W.codeHdIn K cdL T.aL = true) (cP : PySem.W.codeHdIn K cdP T.aP = true) (cW : PySem.W.codeHdIn K cdW T.aW = true) :
    LamX.LawAtS l w K CX0 44 63 "script" mg fa h :=
  law_at T hfa d43 (fun base bL bP bW bU => lib_of d7 d8 d9 d10 d11 d12 d13 d14 d15 d16 d17 d18 d19 d20 d21 d22 d23 d24 d25 d26 d27 d28 d29 d30 d31 d33 d34 d35 d36 d37 d38 d39 d40 d41 d42 hC exm (PySem.W.mg_of X G m1) (PySem.W.mg_of X G m2) (PySem.W.mg_of X G m3) z bL bP bW bU)
    tL tP tW tU.2 nL nP nW nU (PySem.W.codeHd_of_K X cL) (PySem.W.codeHd_of_K X cP) (PySem.W.codeHd_of_K X cW) tU.1
end
end K1
open PySem PySem.W PyProof.Rows
set_option maxRecDepth 100000 in
set_option maxHeartbeats 0 in
theorem PySem.Challenge.cw_kernelstack_k01_terms_moved_and_put_in_holds : PySem.Challenge.rw_kernelstack_k01_terms_moved_and_put_in.Holds := by
  w_on; o_law; k_head; (case hw => w_witness2)
  k_fill
  refine K1.walk_own (l := PySem.Challenge.rw_kernelstack_k01_terms_moved_and_put_in) (n := 63) (k := 44) (x := "script") rfl (by decide) rfl ⟨rfl, by decide, by decide⟩ (fun w h Y => PySem.W.km_in_of Y) ?F
  case F =>
    intro w mg fa h Y X G hfa own
    have hT := PySem.W.km_tabs_of Y
    refine' K1.law_in ⟨101, 123, 273, 138, by decide⟩ X G hfa
      (K1.defF X G ?a7 ?l7 ?c7 ?k7) (K1.defF X G ?a8 ?l8 ?c8 ?k8) (K1.defF X G ?a9 ?l9 ?c9 ?k9) (K1.defF X G ?a10 ?l10 ?c10 ?k10) (K1.defF X G ?a11 ?l11 ?c11 ?k11) (K1.defF X G ?a12 ?l12 ?c12 ?k12) (K1.defF X G ?a13 ?l13 ?c13 ?k13) (K1.defF X G ?a14 ?l14 ?c14 ?k14) (K1.defF X G ?a15 ?l15 ?c15 ?k15) (K1.defE X G ?a16 ?l16 ?c16 ?k16 ?t16 ?u16) (K1.defD X G ?a17 ?l17 ?c17 ?k17 ?t17 ?u17) (K1.defF X G ?a18 ?l18 ?c18 ?k18) (K1.defC X G ?a19 ?l19 ?c19 ?k19) (K1.defD X G ?a20 ?l20 ?c20 ?k20 ?t20 ?u20) (K1.defC X G ?a21 ?l21 ?c21 ?k21) (K1.defF X G ?a22 ?l22 ?c22 ?k22) (K1.defF X G ?a23 ?l23 ?c23 ?k23) (K1.defF X G ?a24 ?l24 ?c24 ?k24) (K1.defF X G ?a25 ?l25 ?c25 ?k25) (K1.defF X G ?a26 ?l26 ?c26 ?k26) (K1.defF X G ?a27 ?l27 ?c27 ?k27) (K1.defF X G ?a28 ?l28 ?c28 ?k28) (K1.defF X G ?a29 ?l29 ?c29 ?k29) (K1.defF X G ?a30 ?l30 ?c30 ?k30) (K1.defF X G ?a31 ?l31 ?c31 ?k31) (K1.defF X G ?a33 ?l33 ?c33 ?k33) (K1.defF X G ?a34 ?l34 ?c34 ?k34) (K1.defF X G ?a35 ?l35 ?c35 ?k35) (K1.defF X G ?a36 ?l36 ?c36 ?k36) (K1.defF X G ?a37 ?l37 ?c37 ?k37) (K1.defF X G ?a38 ?l38 ?c38 ?k38) (K1.defF X G ?a39 ?l39 ?c39 ?k39) (K1.defF X G ?a40 ?l40 ?c40 ?k40) (K1.defF X G ?a41 ?l41 ?c41 ?k41) (K1.defF X G ?a42 ?l42 ?c42 ?k42) (K1.defC X G ?a43 ?l43 ?c43 ?k43)
      (K1.terr_mk X G ?e1 ?e2 ?e3 ?e4 ?e5) (K1.exm_own ?x1 ?x2 ?x3 ?x4)
      ?m1 ?m2 ?m3 (K1.z_mk X G ?z1 ?z2 ?z3 ?z4 ?z5 ?z6 ?z7 ?z8 ?z9 ?z10 ?z11 ?z12 ?z13 ?z14 ?z15 ?z16)
      ?q1 ?q2 ?q3 (own "uses_var" 142 138 ?q4 ?q5) ?n1 ?n2 ?n3 ?n4 ?r1 ?r2 ?r3
    (case a7 => k_is); (case l7 => k_is); (case c7 => k_is); (case k7 => k_is)
    (case a8 => k_is); (case l8 => k_is); (case c8 => k_is); (case k8 => k_is)
    (case a9 => k_is); (case l9 => k_is); (case c9 => k_is); (case k9 => k_is)
    (case a10 => k_is); (case l10 => k_is); (case c10 => k_is); (case k10 => k_is)
    (case a11 => k_is); (case l11 => k_is); (case c11 => k_is); (case k11 => k_is)
    (case a12 => k_is); (case l12 => k_is); (case c12 => k_is); (case k12 => k_is)
    (case a13 => k_is); (case l13 => k_is); (case c13 => k_is); (case k13 => k_is)
    (case a14 => k_is); (case l14 => k_is); (case c14 => k_is); (case k14 => k_is)
    (case a15 => k_is); (case l15 => k_is); (case c15 => k_is); (case k15 => k_is)
    (case a16 => k_is); (case l16 => k_is); (case c16 => k_is); (case k16 => k_is); (case t16 => k_is); (case u16 => rfl)
    (case a17 => k_is); (case l17 => k_is); (case c17 => k_is); (case k17 => k_is); (case t17 => k_is); (case u17 => rfl)
    (case a18 => k_is); (case l18 => k_is); (case c18 => k_is); (case k18 => k_is)
    (case a19 => k_is); (case l19 => k_is); (case c19 => k_is); (case k19 => k_is)
    (case a20 => k_is); (case l20 => k_is); (case c20 => k_is); (case k20 => k_is); (case t20 => k_is); (case u20 => rfl)
    (case a21 => k_is); (case l21 => k_is); (case c21 => k_is); (case k21 => k_is)
    (case a22 => k_is); (case l22 => k_is); (case c22 => k_is); (case k22 => k_is)
    (case a23 => k_is); (case l23 => k_is); (case c23 => k_is); (case k23 => k_is)
    (case a24 => k_is); (case l24 => k_is); (case c24 => k_is); (case k24 => k_is)
    (case a25 => k_is); (case l25 => k_is); (case c25 => k_is); (case k25 => k_is)
    (case a26 => k_is); (case l26 => k_is); (case c26 => k_is); (case k26 => k_is)
    (case a27 => k_is); (case l27 => k_is); (case c27 => k_is); (case k27 => k_is)
    (case a28 => k_is); (case l28 => k_is); (case c28 => k_is); (case k28 => k_is)
    (case a29 => k_is); (case l29 => k_is); (case c29 => k_is); (case k29 => k_is)
    (case a30 => k_is); (case l30 => k_is); (case c30 => k_is); (case k30 => k_is)
    (case a31 => k_is); (case l31 => k_is); (case c31 => k_is); (case k31 => k_is)
    (case a33 => k_is); (case l33 => k_is); (case c33 => k_is); (case k33 => k_is)
    (case a34 => k_is); (case l34 => k_is); (case c34 => k_is); (case k34 => k_is)
    (case a35 => k_is); (case l35 => k_is); (case c35 => k_is); (case k35 => k_is)
    (case a36 => k_is); (case l36 => k_is); (case c36 => k_is); (case k36 => k_is)
    (case a37 => k_is); (case l37 => k_is); (case c37 => k_is); (case k37 => k_is)
    (case a38 => k_is); (case l38 => k_is); (case c38 => k_is); (case k38 => k_is)
    (case a39 => k_is); (case l39 => k_is); (case c39 => k_is); (case k39 => k_is)
    (case a40 => k_is); (case l40 => k_is); (case c40 => k_is); (case k40 => k_is)
    (case a41 => k_is); (case l41 => k_is); (case c41 => k_is); (case k41 => k_is)
    (case a42 => k_is); (case l42 => k_is); (case c42 => k_is); (case k42 => k_is)
    (case a43 => k_is); (case l43 => k_is); (case c43 => k_is); (case k43 => k_is)
    (case e1 => k_is); (case e2 => k_exc); (case e3 => k_is); (case e4 => k_is); (case e5 => k_is)
    (case x1 => k_is); (case x2 => k_is); (case x3 => k_is); (case x4 => k_is)
    (case m1 => k_is); (case m2 => k_is); (case m3 => k_is)
    (case z1 => k_is); (case z2 => k_is); (case z3 => k_is); (case z4 => k_is); (case z5 => k_is); (case z6 => k_is); (case z7 => k_is); (case z8 => k_is); (case z9 => k_is); (case z10 => k_is); (case z11 => k_is); (case z12 => k_is); (case z13 => k_is); (case z14 => k_is); (case z15 => k_is); (case z16 => k_is)
    (case q1 => exact hT 101 (by decide)); (case q2 => exact hT 123 (by decide)); (case q3 => exact hT 273 (by decide))
    (case q4 => rfl); (case q5 => kernel_rfl);
    (case n1 => kernel_rfl); (case n2 => kernel_rfl); (case n3 => kernel_rfl); (case n4 => kernel_rfl)
    (case r1 => kernel_rfl); (case r2 => kernel_rfl); (case r3 => kernel_rfl)
