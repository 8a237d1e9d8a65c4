package state

import "gloss/api"

// The numbers of a digest: what it begins as, and by what it is multiplied for each part that is laid in.
const (
	first  = 14695981039346656037
	factor = 1099511628211
)

// over is laid in behind the hold space; no byte is as great, so that it ends what is held.
const over = 256

// Digest is a number that hangs on what is the same of states that are the Same: the bytes held, whether the run is over, each On.
func Digest(s api.State) uint64 {
	d := uint64(first)
	for i := range len(s.Hold) {
		d = lay(d, uint64(s.Hold[i]))
	}
	d = lay(d, over+bit(s.Over))
	for _, on := range s.On {
		d = lay(d, bit(on))
	}
	return d
}

// lay lays one part in: the same part at another place makes another number.
func lay(d, part uint64) uint64 {
	return (d ^ part) * factor
}

func bit(b bool) uint64 {
	if b {
		return 1
	}
	return 0
}
