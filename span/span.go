// Package span is layer 1: see shared/doc/01-span.md.
package span

import (
	"cmp"
	"slices"

	"merkhet/api"
)

// Name tells whether a text is a name.
func Name(s string) bool {
	if len(s) < 1 || len(s) > api.MaxName {
		return false
	}
	for i := range len(s) {
		if !inNames(s[i]) {
			return false
		}
	}
	return true
}

// inNames tells whether a name may have a byte.
func inNames(b byte) bool {
	switch b {
	case '-', '.', '_':
		return true
	}
	return 'a' <= b && b <= 'z' || '0' <= b && b <= '9'
}

// May tells whether a span may be.
func May(s api.Span) bool {
	return numbersMay(s) && timesMay(s) && Name(s.Host) && Name(s.Name)
}

func numbersMay(s api.Span) bool {
	return s.Trace != 0 && s.ID != 0 && s.Parent != s.ID && s.Kind <= api.Server
}

func timesMay(s api.Span) bool {
	return 0 <= s.Start && s.Start < api.MaxTime && 0 <= s.Dur && s.Dur <= api.MaxTime
}

// Cmp tells how two spans stand to one another.
func Cmp(a, b api.Span) int {
	return firstUnlike(a, b, start, id, parent, kind, dur, host, name, trace)
}

// firstUnlike holds fields of two spans against one another, up to the first that is unlike.
func firstUnlike(a, b api.Span, fields ...func(a, b api.Span) int) int {
	for _, field := range fields {
		if c := field(a, b); c != 0 {
			return c
		}
	}
	return 0
}

func start(a, b api.Span) int  { return cmp.Compare(a.Start, b.Start) }
func id(a, b api.Span) int     { return cmp.Compare(a.ID, b.ID) }
func parent(a, b api.Span) int { return cmp.Compare(a.Parent, b.Parent) }
func kind(a, b api.Span) int   { return cmp.Compare(a.Kind, b.Kind) }
func dur(a, b api.Span) int    { return cmp.Compare(a.Dur, b.Dur) }
func host(a, b api.Span) int   { return cmp.Compare(a.Host, b.Host) }
func name(a, b api.Span) int   { return cmp.Compare(a.Name, b.Name) }
func trace(a, b api.Span) int  { return cmp.Compare(a.Trace, b.Trace) }

// Sort are spans in order.
func Sort(l []api.Span) []api.Span {
	sorted := make([]api.Span, len(l))
	copy(sorted, l)
	slices.SortFunc(sorted, Cmp)
	return sorted
}

// End is when a span ends.
func End(s api.Span) (int64, bool) {
	if !May(s) {
		return 0, false
	}
	return s.Start + s.Dur, true
}
