// Package redex: a small lazy language, its templates, and the machine that runs them: see DOC.md.
package redex

import (
	"redex/api"
	"redex/codetext"
	"redex/machine"
	"redex/source"
)

// Check tells the first fault of a source text (P3).
func Check(src string) (int, api.Errno) { return source.Check(src) }

// Show writes a source text as it is always written (P4).
func Show(src string) (string, api.Errno) { return source.Show(src) }

// Compile turns a source text into a code text (P5).
func Compile(src string) (string, api.Errno) { return source.Compile(src) }

// Read reads a code text (P6).
func Read(code string) (api.Code, int, api.Errno) { return codetext.Read(code) }

// Write writes a code text (P6).
func Write(c api.Code) (string, api.Errno) { return codetext.Write(c) }

// Run runs a code text (P8 to P10).
func Run(code string, budget int, heap int) (api.Result, api.Errno) {
	return machine.Run(code, budget, heap)
}

// Eval runs a source text (P11).
func Eval(src string, budget int) (api.Result, api.Errno) {
	text, e := source.Compile(src)
	if e != api.OK {
		return api.Result{}, e
	}
	return machine.Run(text, budget, api.MaxHeap)
}
