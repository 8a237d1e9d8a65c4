package prog

import "gloss/api"

// none is the place of what isn't there.
const none = -1

// jumps are the places to which the commands lead, of each the one that it may go to.
func jumps(l []api.Cmd) []int {
	places := make([]int, len(l))
	for i := range l {
		places[i] = jump(l, i)
	}
	return places
}

// jump is the place to which the command at a place leads; none: to no other than the next one.
func jump(l []api.Cmd, at int) int {
	c := l[at]
	switch {
	case c.Op == '{':
		return closing(l, at)
	case !branches(c):
		return none
	case c.Text == "":
		return len(l)
	}
	return label(l, c.Text)
}

func branches(c api.Cmd) bool { return c.Op == 'b' || c.Op == 't' }

// closing is the place of the } of the { at a place. There is one: the commands are right.
func closing(l []api.Cmd, at int) int {
	open := 0
next:
	switch l[at].Op {
	case '{':
		open++
	case '}':
		open--
	}
	if open > 0 {
		at++
		goto next
	}
	return at
}

// label is the place of the first : with a name.
func label(l []api.Cmd, name string) int {
	for i, c := range l {
		if c.Op == ':' && c.Text == name {
			return i
		}
	}
	return none
}

// labelTwice is the place of the first : whose name an earlier one has.
func labelTwice(l []api.Cmd) int {
	for i, c := range l {
		if c.Op == ':' && label(l[:i], c.Text) != none {
			return i
		}
	}
	return none
}

// labelMissing is the place of the first command that goes to a label that isn't there.
func labelMissing(l []api.Cmd) int {
	for i, c := range l {
		if branches(c) && c.Text != "" && label(l, c.Text) == none {
			return i
		}
	}
	return none
}
