"""movedrun: a language, its machine, and runs that no collection and no tier can change."""
