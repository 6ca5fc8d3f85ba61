// Package sheaf is layer 1: it keeps what was reported of one field in a harvest, and tells from it how many sheaves stood, and whether the field is clear, and open. See shared/doc/01-sheaf.md.
package sheaf
