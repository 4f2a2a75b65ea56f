// Package topic: topics: see doc/02-topic.md.
package topic

import (
	"strings"

	"dragoman/api"
)

const (
	between = "/" // stands between levels
	one     = "+" // a level of a filter: any one
	rest    = "#" // the last level of a filter: all that are left
)

// Name of a topic.
func Name(s string) api.Errno {
	return check(s, func(level string, _ bool) bool {
		return isPlain(level)
	})
}

// Filter for topics.
func Filter(s string) api.Errno {
	return check(s, func(level string, last bool) bool {
		return level == one || level == rest && last || isPlain(level)
	})
}

// Match a filter and a topic.
func Match(filter, name string) (bool, api.Errno) {
	if e := Filter(filter); e != api.OK {
		return false, e
	}
	if e := Name(name); e != api.OK {
		return false, e
	}
	return takesIn(levels(filter), levels(name)), api.OK
}

// Covers: is one filter for all that another one is for?
func Covers(a, b string) (bool, api.Errno) {
	if e := Filter(a); e != api.OK {
		return false, e
	}
	if e := Filter(b); e != api.OK {
		return false, e
	}
	return takesIn(levels(a), levels(spelled(b))), api.OK
}

// check the form of a text; may tells how a level may be.
func check(s string, may func(level string, last bool) bool) api.Errno {
	if s == "" {
		return api.ErrForm
	}
	// Ahead of the levels, so that a text of any length is not taken apart.
	if len(s) > api.MaxTopic {
		return api.ErrMany
	}
	all := levels(s)
	if len(all) > api.MaxLevels {
		return api.ErrMany
	}
	for i, level := range all {
		if !may(level, i == len(all)-1) {
			return api.ErrForm
		}
	}
	return api.OK
}

func levels(s string) []string {
	return strings.Split(s, between)
}

// isPlain: may the level stand in a topic?
func isPlain(level string) bool {
	for i := 0; i < len(level); i++ {
		c := level[i]
		if c < 33 || c > 126 || c == '+' || c == '#' {
			return false
		}
	}
	return true
}

// spelled: a filter for the same topics, in which # is also for none that are left.
// In these two it is not: what would be left of them is the empty text, which is no topic.
func spelled(filter string) string {
	switch filter {
	case "#":
		return "+/#"
	case "/#":
		return "/+/#"
	}
	return filter
}

// takesIn: is filter for all that other is for? The levels of other are those of a topic, or of a spelled filter.
func takesIn(filter, other []string) bool {
	for i, level := range filter {
		if level == rest {
			return true
		}
		// Where other ends, or may end, a level of filter is still to come.
		if i == len(other) || other[i] == rest {
			return false
		}
		if level != one && level != other[i] {
			return false
		}
	}
	return len(filter) == len(other)
}
