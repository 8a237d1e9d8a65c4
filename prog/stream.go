package prog

import (
	"slices"
	"strings"

	"gloss/api"
)

// stream is the name of the stream that c writes to; "": to none.
func stream(c api.Cmd) string {
	if c.Op == 'w' || c.Op == 's' {
		return c.Text
	}
	return ""
}

// isNew tells whether a name is a stream's that isn't among those that there are.
func isNew(names []string, name string) bool {
	return name != "" && !slices.Contains(names, name)
}

// streams are the names of l's streams, in order, each once.
func streams(l []api.Cmd) []string {
	var names []string
	for _, c := range l {
		if name := stream(c); isNew(names, name) {
			names = append(names, strings.Clone(name))
		}
	}
	return names
}

// streamBeyond is the place of the first command whose stream would be one too many.
func streamBeyond(l []api.Cmd) int {
	for i, c := range l {
		if names := streams(l[:i]); len(names) == api.MaxStreams && isNew(names, stream(c)) {
			return i
		}
	}
	return none
}
