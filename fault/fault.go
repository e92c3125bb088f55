// Package fault puts errors where they are in a source.
package fault

import (
	"errors"

	"typecase/api"
)

// At is the error at a place. An error that a layer below has told has its place already, and keeps it.
func At(line, col int, err error) error {
	var told *api.Fault
	if errors.As(err, &told) {
		return told
	}
	return &api.Fault{Line: line, Col: col, Err: err}
}

// AtToken is the error at the place of a token.
func AtToken(t api.Token, err error) error { return At(t.Line, t.Col, err) }

// AtEnd is the error at the last of some tokens, where none is left; of none at all it is at no line.
func AtEnd(l []api.Token, err error) error {
	if len(l) == 0 {
		return At(0, 0, err)
	}
	return AtToken(l[len(l)-1], err)
}

// AtNext is the error at the token at a place of some, or at the last one, where none is left.
func AtNext(l []api.Token, at int, err error) error {
	if at < len(l) {
		return AtToken(l[at], err)
	}
	return AtEnd(l, err)
}
