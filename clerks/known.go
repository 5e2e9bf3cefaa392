package clerks

import (
	"iter"
	"maps"
	"slices"

	"aneroid/api"
	"aneroid/archive"
)

// counts are the numbers of notes of all clerks.
type counts [api.MaxClerks]int

// known are notes by their names: of each clerk those with the numbers from 1 to its count.
type known struct {
	notes  map[api.Name]api.Note
	counts counts
}

func nothingKnown() known { return known{notes: map[api.Name]api.Note{}} }

// clone returns the same notes, which change on their own from then on.
func (k *known) clone() known { return known{maps.Clone(k.notes), k.counts} }

// follows reports whether a note is the next one of its clerk.
func (k *known) follows(n api.Note) bool { return n.Num == k.counts[n.Clerk-1]+1 }

// learn adds the next note of a clerk.
func (k *known) learn(n api.Note) {
	k.notes[nameOf(n)] = copyNote(n)
	k.counts[n.Clerk-1]++
}

// clock returns the greatest Clock of all notes, or 0.
func (k *known) clock() int {
	clock := 0
	for _, n := range k.notes {
		clock = max(clock, n.Clock)
	}
	return clock
}

// end returns the end of a store that has all notes.
func (k *known) end() int {
	end := firstRecord
	for n := range k.beyond(nil) {
		end += blocksFor(bytesOf(n))
	}
	return end
}

// hasConflict reports whether a note is a conflict among all.
func (k *known) hasConflict(b api.Base, n api.Note) bool {
	r, _ := archive.Fold(b, k.all())
	return slices.Contains(r.Conflicts, nameOf(n))
}

// beyond yields, by name, the notes with numbers greater than the counts of a list, which may have any length.
func (k *known) beyond(list []int) iter.Seq[api.Note] {
	return func(yield func(api.Note) bool) {
		for i, count := range k.counts {
			told := 0
			if i < len(list) {
				told = list[i]
			}
			for num := 1; num <= count; num++ {
				if num > told && !yield(k.notes[api.Name{Clerk: i + 1, Num: num}]) {
					return
				}
			}
		}
	}
}

// all returns the notes by name.
func (k *known) all() []api.Note { return copied(k.beyond(nil), len(k.notes)) }

// copied returns copies of the first notes of a sequence, at most so many.
func copied(notes iter.Seq[api.Note], most int) []api.Note {
	var l []api.Note
	for n := range notes {
		if len(l) == most {
			break
		}
		l = append(l, copyNote(n))
	}
	return l
}
