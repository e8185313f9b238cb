"""Texts of declarations for the tests, and the worlds of them."""

from kernelstack.world import world_of

BASE = """
data nat : Type | O | S (n : nat) end;
data eq (A : Type) (a : A) : A -> Prop | refl : eq A a a end;
data list (A : Type) : Type | nil | cons (a : A) (l : list A) end;   -- all arguments are told
data seq {A : Type} : Type | none | more (a : A) (s : seq A) end;    -- the parameter is left out of constructors
data bool : Type | true | false_b end;
data and (A B : Prop) : Prop | both (a : A) (b : B) end;
data or (A B : Prop) : Prop | inl (a : A) | inr (b : B) end;
data false : Prop end;
data vec (A : Type) : nat -> Type
  | vnil : vec A O
  | vcons (n : nat) (a : A) (v : vec A n) : vec A (S n) end;
def plus (n m : nat) : nat := rec[nat 1] (fun x => nat) m (fun k h => S h) n;
def times (n m : nat) : nat := rec[nat 1] (fun x => nat) 0 (fun k h => plus m h) n;
def id {A : Type} (a : A) : A := a;
def not (A : Prop) : Prop := A -> false;
theorem cong (A B : Type) (f : A -> B) (a b : A) : eq A a b -> eq B (f a) (f b) by
  intro p, cases p, exact refl ? ?;
"""

WORLD = world_of(BASE)


def world():
    """Return a fresh world of the declarations."""
    return WORLD.copied()


def state(one):
    """Return all that a world holds, to be compared."""
    signature = one.signature
    return (
        signature.shown(),
        dict(signature.kinds),
        dict(signature.bodies),
        dict(signature.owners),
        sorted(signature.data),
        dict(one.implicits),
        list(one.theorems),
    )
