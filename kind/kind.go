// Package kind tells what several layers ask of an item's kind.
package kind

import "typecase/api"

// Leads: has an item a target?
func Leads(i api.Item) bool {
	return i.Kind == api.Branch || i.Kind == api.Jump || i.Kind == api.Far
}

// IsInstruction: is an item an instruction?
func IsInstruction(i api.Item) bool {
	return Leads(i) || i.Kind == api.Fixed || i.Kind == api.Late || i.Kind == api.Addr
}
